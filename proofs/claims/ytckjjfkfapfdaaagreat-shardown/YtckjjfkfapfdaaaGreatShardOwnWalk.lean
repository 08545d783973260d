/- ShardOwn returns true for every input, and writes nothing that was there. Conditions: the contracts of package shard. -/
import Derived.Test.YtckjjfkfapfdaaaGreatShardOwnM
import Derived.Test.YtckjjfkfapfdaaaGreatHasIt
import Derived.Deep.RegionHeldLaw
import Derived.Deep.QuietTactic
import Derived.BigQuiet
namespace Go.Proofs.YtckjjfkfapfdaaaGreat
open Go.RowKit Go.Shelf
variable {Sh : World → Nat → (Nat → Prop) → Nat → Nat → Hs → Prop}

def keyV (key : ByteArray) (u : List UInt8) : Iv := ⟨key, u, 0, 0, 0, 0, 0, false, false, false⟩
theorem keyV_ok {key : ByteArray} {u : List UInt8} (h1 : key.size ≤ 250) (h2 : u.length ≤ 1000) : (keyV key u).ok := ⟨Nat.le_trans h1 (by decide), Nat.le_trans h2 (by decide), i64_lit 0, i64_lit 0, u64_lit 0⟩
theorem items_one {w0 w : World} {v : Value} {x : Told} {R : Part} (H : Law w0 w ((itemsP v [x]).and R)) : Law w0 w ((valP 0 x.a x.c x.iv.val).and ((rowP 0 34 10 v 1 (itC x.it).toList).and R)) := by
  have e : itsV ([x].map Told.it) = (itC x.it).toList := by simp [itsV]
  have H1 := H.assoc.rot
  rw [e] at H1
  exact H1.weak1 (A' := valP 0 x.a x.c x.iv.val) (fun h => h x (by simp)) fun k hk => ⟨x, by simp, hk⟩
set_option maxRecDepth 100000 in
set_option maxHeartbeats 8000000 in
theorem shardOwn_in (L : ShardLib Sh) (key : ByteArray) (hk : key.size ≤ 250) {w : World} {a : Option Addr} {cap : Nat} (u : List UInt8) (hu : u.length ≤ 1000) (hb : Bs w a u.length cap (ints u)) (c : Int) :
    Calls Tryz.prog 5 #[.string key, .slice a u.length cap, .int .u8 c] w fun e w' => e = .returned (.bool true) ∧ Below w.heap.size w w' := by
  obtain ⟨st, ck, p1, p2, p3, p4, p5⟩ := own_store (keyV key u) (by unfold sizeI keyV; dsimp only; omega) rfl
  have P1 := hide (And.intro p1 p2)
  have P3 := hide p3
  have P4 := hide p4
  have P5 := hide p5
  clear p1 p2 p3 p4 p5
  have hok := keyV_ok hk hu
  have hki : (key.size : Int) ≤ 250 := by omega
  have hui : (u.length : Int) ≤ 1000 := by omega
  have hk3 : (keyV key u).key.size ≤ 300 := Nat.le_trans hk (by decide)
  have HB := Law.start w
  go_enter Tryz.func5, Tryz.ntmps5
  go_wp2_with (first
    | (go_at_call 8; refine (awake_any L _).mono ?_; rintro e w1 ⟨rfl, hb1⟩; replace HB := HB.step (below_gr' hb1); clear hb1)
    | (go_at_call 10; refine (shNew_is L HB 1 100000 3 (by decide) (i64_lit 100000) (i64_lit 3)).mono ?_; clear HB; rintro e w3 ⟨b, own, rfl, H⟩)
    | (at_builtin; refine wpList_append_bs rfl _ _ rfl 0 _ 0 [] rfl (World.ownsRow_nil _ _ _ _) _ _ _ u rfl rfl (hb.on H.below) (by omega) (Nat.zero_le _) ?_; intro v1 w4 hown1 hg1 hat1; rw [Nat.zero_add, List.nil_append] at hown1; obtain ⟨a1, c1, rfl⟩ := own_shape hown1; have H1 := ((H.nil (n0 := 0) (e := 5) (size := 1)).app0 hown1 hg1 hat1).rot; have HE := H1.box (.cells (enC ⟨0, 0, 0, 0⟩) 36); clear H H1 hown1 hg1 hat1)
    | (refine wpList_store_row rfl 36 _ _ rfl w4.heap.size (enC env1) rfl rfl _ (enC ⟨0, 0, 0, 0⟩) HE.q.1 (env_size _) rfl (env_one _) ?_; have H := ((f_law ((law_f HE).setRow (enC env1))).rot).rin; clear HE)
    | (refine wpList_load_row rfl 36 _ rfl w4.heap.size rfl _ (enC env1) _ _ H.q.2.1.2.1.1 Tryz.underlying36 rfl (env_size _) ?_)
    | (go_at_call 22; refine (shStore_is L H (by decide) (keyV key u) a1 c1 env1 hok H.readOwn env1_ok _ _ P1.out.1 P1.out.2).mono ?_; clear H; rintro e w5 ⟨rfl, own5, H⟩))
  replace H := H.rot
  go_loopw [12] (fun i wr => ∃ (k : Nat) (xs : List Value), k ≤ u.length ∧ i = .int .i64 k ∧ Law w wr ((rowP 0 5 1 (.slice a1 u.length c1) u.length xs).and ((shQ L b own5 1 (0 + 1) st).and ((boxP w4.heap.size (.cells (enC env1) 36)).and Part.emp)))) (fun i _ => u.length - (intOf i).toNat)
  case atStart => exact ⟨0, _, Nat.zero_le _, rfl, H⟩
  case round =>
    clear H
    obtain ⟨k, xs, hk', rfl, H⟩ := hrel
    by_cases hlt : k < u.length
    · have hki : (k : Int) < (u.length : Int) := by omega
      have hr : wr.ownsRow 0 5 1 (.slice a1 u.length c1) u.length xs := H.q.1
      obtain ⟨g, cap', e'⟩ := own_form hr (by omega)
      cases e'
      obtain ⟨⟨x, hx⟩, hf⟩ := row_byte hr k hlt
      have H2 := H.rowSet k (.int .u8 c)
      clear H hr
      go_wp2
      go_roundw
      case rel => exact ⟨k + 1, _, by omega, by go_num, H2⟩
      case measure => simp [intOf]; omega
    · have hlt2 : ¬ ((k : Int) < (u.length : Int)) := by omega
      replace H := H.right
      have hvW : Hid (∀ W, Below w.heap.size w W → (convert 31 9 (.slice a u.length cap)).run Tryz.prog W = .ok (.string ⟨u.toArray⟩) W) := fun W hB => by
        have := conv_bs (hb.on hB)
        rw [strOf_ints] at this
        exact this
      clear hlt hk'
      go_wp2_with (first
        | (refine wpList_load_row rfl 36 _ rfl w4.heap.size rfl _ (enC env1) _ _ H.q.2.1.1 Tryz.underlying36 rfl (env_size _) ?_)
        | (go_at_call 25; refine (shLook_some L H (by decide) (keyV key u).key hk3 env1 env1_ok (keyV key u, ck) _ P4.out P5.out).mono ?_; clear H; rintro e w6 ⟨a2, c2, rfl, own6, H⟩; have H3 := H.box (.cells (itC (itOf (keyV key u) a2 c2)) 34); have k31 : (w6.alloc (.cells (itC (itOf (keyV key u) a2 c2)) 34)).cell? ⟨w6.heap.size, 1, none⟩ = some (.slice a2 u.length c2) := (it_cells H3.q.1).2.1; have cv := hvW.out _ H3.below; have cv2 : (convert 31 9 (.slice a2 u.length c2)).run Tryz.prog (w6.alloc (.cells (itC (itOf (keyV key u) a2 c2)) 34)) = .ok (.string ⟨u.toArray⟩) (w6.alloc (.cells (itC (itOf (keyV key u) a2 c2)) 34)) := (by have h9 := conv_bs (ValAt.bs H3.q.2.1.2.1.1); rw [strOf_ints] at h9; exact h9); clear H)
        | (refine wpList_store_row rfl 34 _ _ rfl w6.heap.size (itC (itOf (keyV key u) a2 c2)) rfl rfl _ (itC zeroIt) (World.alloc_heap_new w6 _) (item_size _) rfl (item_one _) ?_; rw [setRow_alloc]))
      have H4 : Law w (w6.alloc (.cells (itC (itOf (keyV key u) a2 c2)) 34)) ((valP 0 a2 c2 u).and ((boxP w6.heap.size (.cells (itC (itOf (keyV key u) a2 c2)) 34)).and ((shQ L b own6 1 (0 + 1) st).and ((boxP w4.heap.size (.cells (enC env1) 36)).and Part.emp)))) := H3.rin.rot
      clear H3 k31 cv cv2
      go_loopw [16] (fun i wr => ∃ (k : Nat) (xs : List Value), k ≤ u.length ∧ i = .int .i64 k ∧ Law w wr ((rowP 0 5 1 (.slice a2 u.length c2) u.length xs).and ((boxP w6.heap.size (.cells (itC (itOf (keyV key u) a2 c2)) 34)).and ((shQ L b own6 1 (0 + 1) st).and ((boxP w4.heap.size (.cells (enC env1) 36)).and Part.emp))))) (fun i _ => u.length - (intOf i).toNat)
      case atStart => exact ⟨0, _, Nat.zero_le _, rfl, H4⟩
      case round =>
        clear H4
        obtain ⟨k, xs, hk', rfl, H⟩ := hrel
        have kv : wr.cell? ⟨w6.heap.size, 1, none⟩ = some (.slice a2 u.length c2) := (it_cells H.q.2.1.1).2.1
        by_cases hlt : k < u.length
        · have hki : (k : Int) < (u.length : Int) := by omega
          have hr : wr.ownsRow 0 5 1 (.slice a2 u.length c2) u.length xs := H.q.1
          obtain ⟨g, cap', e'⟩ := own_form hr (by omega)
          cases e'
          obtain ⟨⟨x, hx⟩, hf⟩ := row_byte hr k hlt
          have H2 := H.rowSet k (.int .u8 c)
          clear H hr
          go_wp2
          go_roundw
          case rel => exact ⟨k + 1, _, by omega, by go_num, H2⟩
          case measure => simp [intOf]; omega
        · have hlt2 : ¬ ((k : Int) < (u.length : Int)) := by omega
          replace H := H.right.right
          clear hlt hk'
          go_wp2_with (go_at_call 14; refine (shAll_is L H (by decide) 5 (by decide) (by decide)).mono ?_; clear H; rintro e w8 ⟨v, xs, rfl, hxs, H⟩; rw [P3.out] at hxs)
          obtain ⟨x, rfl⟩ : ∃ x, xs = [x] := by
            have h1 := congrArg List.length hxs
            simp at h1
            exact List.length_eq_one_iff.1 h1
          have hxi : x.iv = keyV key u := by simpa using hxs
          obtain ⟨xi, xa, xc⟩ := x
          dsimp only at hxi
          subst hxi
          have H5 := items_one H.rot
          have hrw : w8.ownsRow 0 34 10 v 1 (itC (itOf (keyV key u) xa xc)).toList := H5.q.2.1.1
          obtain ⟨g8, cap8, rfl⟩ := own_form hrw (by decide)
          obtain ⟨hc8, hc9⟩ := own_cap hrw
          unfold maxLen at hc9
          have k80 : w8.cell? ⟨g8, 1, none⟩ = some (.slice xa u.length xc) := hrw.cellAt 1 (by decide)
          have cv : ∀ n, (convert 31 9 (.slice a u.length cap)).run Tryz.prog (w8.drewN n) = .ok (.string ⟨u.toArray⟩) (w8.drewN n) := fun n => hvW.out _ (H5.drewN n).below
          have cv2 : ∀ n, (convert 31 9 (.slice xa u.length xc)).run Tryz.prog (w8.drewN n) = .ok (.string ⟨u.toArray⟩) (w8.drewN n) := fun n => by
            have := conv_bs (ValAt.bs (H5.drewN n).q.1)
            rw [strOf_ints] at this
            exact this
          clear H hxs hrw
          go_wp2
          go_quiet (fail)
          have H6 : Law w (w8.drewN nq) _ := H5.drewN nq
          clear H5 cv cv2 k80
          generalize w8.drewN nq = w9 at *
          go_wp2
          go_loopw [18] (fun i wr => ∃ (k : Nat) (xs : List Value), k ≤ u.length ∧ i = .int .i64 k ∧ Law w wr ((rowP 0 5 1 (.slice xa u.length xc) u.length xs).and ((rowP 0 34 10 (.slice (some ⟨g8, 0, none⟩) 1 cap8) 1 (itC (itOf (keyV key u) xa xc)).toList).and ((shQ L b own6 1 (0 + 1) st).and ((boxP w4.heap.size (.cells (enC env1) 36)).and Part.emp))))) (fun i _ => u.length - (intOf i).toNat)
          case atStart => exact ⟨0, _, Nat.zero_le _, rfl, H6⟩
          case round =>
            clear H6
            obtain ⟨k, xs, hk', rfl, H⟩ := hrel
            have kv : wr.cell? ⟨g8, 1, none⟩ = some (.slice xa u.length xc) := World.ownsRow.cellAt (show wr.ownsRow 0 34 10 (.slice (some ⟨g8, 0, none⟩) 1 cap8) 1 (itC (itOf (keyV key u) xa xc)).toList from H.q.2.1.1) 1 (by decide)
            by_cases hlt : k < u.length
            · have hki : (k : Int) < (u.length : Int) := by omega
              have hr : wr.ownsRow 0 5 1 (.slice xa u.length xc) u.length xs := H.q.1
              obtain ⟨g, cap', e'⟩ := own_form hr (by omega)
              cases e'
              obtain ⟨⟨x, hx⟩, hf⟩ := row_byte hr k hlt
              have H2 := H.rowSet k (.int .u8 c)
              clear H hr
              go_wp2
              go_roundw
              case rel => exact ⟨k + 1, _, by omega, by go_num, H2⟩
              case measure => simp [intOf]; omega
            · have hlt2 : ¬ ((k : Int) < (u.length : Int)) := by omega
              replace H := H.right.right
              clear hlt hk'
              go_wp2_with (first
                | (refine wpList_load_row rfl 36 _ rfl w4.heap.size rfl _ (enC env1) _ _ H.q.2.1.1 Tryz.underlying36 rfl (env_size _) ?_)
                | (go_at_call 25; refine (shLook_some L H (by decide) (keyV key u).key hk3 env1 env1_ok (keyV key u, ck) _ P4.out P5.out).mono ?_; clear H; rintro e w10 ⟨a2, c2, rfl, own6, H⟩; have H3 := H.box (.cells (itC (itOf (keyV key u) a2 c2)) 34); have k31 : (w10.alloc (.cells (itC (itOf (keyV key u) a2 c2)) 34)).cell? ⟨w10.heap.size, 1, none⟩ = some (.slice a2 u.length c2) := (it_cells H3.q.1).2.1; have cv := hvW.out _ H3.below; have cv2 : (convert 31 9 (.slice a2 u.length c2)).run Tryz.prog (w10.alloc (.cells (itC (itOf (keyV key u) a2 c2)) 34)) = .ok (.string ⟨u.toArray⟩) (w10.alloc (.cells (itC (itOf (keyV key u) a2 c2)) 34)) := (by have h9 := conv_bs (ValAt.bs H3.q.2.1.2.1.1); rw [strOf_ints] at h9; exact h9); clear H)
                | (refine wpList_store_row rfl 34 _ _ rfl w10.heap.size (itC (itOf (keyV key u) a2 c2)) rfl rfl _ (itC zeroIt) (World.alloc_heap_new w10 _) (item_size _) rfl (item_one _) ?_; rw [setRow_alloc]))
              go_ret
              exact ⟨rfl, H3.below⟩
set_option maxRecDepth 100000 in
set_option maxHeartbeats 4000000 in
theorem shardOwn_out (L : ShardLib Sh) (key : ByteArray) (hkm : key.size ≤ 140737488351232) {w : World} {a : Option Addr} {len cap : Nat} (hlm : len ≤ maxLen) (c : Int) (hS : ¬ (key.size ≤ 250 ∧ len ≤ 1000)) :
    Calls Tryz.prog 5 #[.string key, .slice a len cap, .int .u8 c] w fun e w' => e = .returned (.bool true) ∧ Below w.heap.size w w' := by
  have HB := Law.start w
  unfold maxLen at hlm
  by_cases hk : key.size ≤ 250
  · have hki : (key.size : Int) ≤ 250 := by omega
    have hli : (1000 : Int) < (len : Int) := by
      have : ¬ len ≤ 1000 := fun e => hS ⟨hk, e⟩
      omega
    clear hS hk
    go_enter Tryz.func5, Tryz.ntmps5
    go_wp2_with (first
      | (go_at_call 8; refine (awake_any L _).mono ?_; rintro e w1 ⟨rfl, hb1⟩; replace HB := HB.step (below_gr' hb1); clear hb1)
      | (go_at_call 10; refine (shNew_is L HB 1 100000 3 (by decide) (i64_lit 100000) (i64_lit 3)).mono ?_; clear HB; rintro e w3 ⟨b, own, rfl, H⟩))
    go_ret
    exact ⟨rfl, H.below⟩
  · have hki : (250 : Int) < (key.size : Int) := by omega
    clear hS hk
    go_enter Tryz.func5, Tryz.ntmps5
    go_wp2_with (first
      | (go_at_call 8; refine (awake_any L _).mono ?_; rintro e w1 ⟨rfl, hb1⟩; replace HB := HB.step (below_gr' hb1); clear hb1)
      | (go_at_call 10; refine (shNew_is L HB 1 100000 3 (by decide) (i64_lit 100000) (i64_lit 3)).mono ?_; clear HB; rintro e w3 ⟨b, own, rfl, H⟩))
    go_ret
    exact ⟨rfl, H.below⟩
theorem shardOwn_walk (L : ShardLib Sh) (W : World) (s0 : ByteArray) (w0 : s0.size ≤ 140737488351232) (a1 : Option Addr) (len1 cap1 : Nat) (z1 : List Int) (w1 : IsRow .u8 W a1 len1 cap1 z1) (a2 : Int) (_w2 : (Lit.int .u8 a2).wf = true) :
    Calls Tryz.prog 5 #[.string s0, .slice a1 len1 cap1, .int .u8 a2] W fun e W' => e = .returned (.bool true) ∧ Below W.heap.size W W' := by
  obtain ⟨u, rfl, hb, hm, _⟩ := isRow_bs w1
  by_cases h : s0.size ≤ 250 ∧ u.length ≤ 1000
  · exact shardOwn_in L s0 h.1 u h.2 hb a2
  · exact shardOwn_out L s0 w0 hm a2 h
end Go.Proofs.YtckjjfkfapfdaaaGreat
