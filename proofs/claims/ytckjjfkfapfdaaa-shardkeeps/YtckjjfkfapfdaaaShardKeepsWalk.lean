/- ShardKeeps returns true for every input, and writes nothing that was there. Conditions: the contracts of package shard. -/
import Derived.Test.YtckjjfkfapfdaaaShardAw
import Derived.Test.YtckjjfkfapfdaaaG27Joined
import Derived.Test.YtckjjfkfapfdaaaSame8
import Derived.Deep.RegionHeldLaw
import Derived.Deep.QuietTactic
import Derived.BigQuiet
import Derived.Shelf.SlSortCmp.QuietGrown
namespace Go.Proofs.Ytckjjfkfapfdaaa
open Go.RowKit Go.Shelf
variable {Sh : World → Nat → (Nat → Prop) → Nat → Nat → Hs → Prop}

/-- An item that never ends. -/
def nil0 (i : Iv) : Iv := { i with exp := 0 }
def enN (now : Int) : En := ⟨now, 0, 0, 0⟩
theorem live0 {i : Iv} (h : i.exp = 0) (now : Int) : liveI i (enN now) = true := by
  unfold liveI liveN enN
  rw [h]
  simp
theorem sumB_ge : ∀ (l : List Ck), 0 ≤ sumB l
  | [] => by simp [sumB]
  | c :: l => by
    rw [sumB_cons]
    have := sumB_ge l
    have := bytes_nonneg c.1
    omega
theorem chunk_le {st : Sb} {c : Ck} (hc : c ∈ st.inn) : bytesC c.1 ≤ usedS st := by
  have h1 := sumB_erase st.inn c hc
  have h2 := sumB_ge (st.inn.erase c)
  show _ ≤ sumB st.inn
  omega
def storedL (os : List Op11) (key : ByteArray) : Bool := os.any fun o => decide (o.iv.key = key) && decide (sizeI o.iv ≤ 2048)
/-- What a shard has while all fits. -/
structure Roomy0 (bud : Int) (os : List Op11) (st : Hs) : Prop where
  drops : st.drops = []
  bud : st.slab.bud = bud
  live : ∀ e ∈ st.ents, e.1.exp = 0
  has : ∀ key, (findE key st.ents).isSome = storedL os key
theorem roomy_fresh (bud most : Int) : Roomy0 bud [] (freshH bud most) := ⟨rfl, rfl, fun e he => (by cases he), fun _ => rfl⟩
theorem keeps_living {bud : Int} {os : List Op11} {st : Hs} (h : Roomy0 bud os st) (key : ByteArray) (now : Int) : livingH st key (enN now) = findE key st.ents ∧ lookH st key (enN now) = st := by
  unfold livingH lookH
  cases hf : findE key st.ents with
  | none => exact ⟨rfl, rfl⟩
  | some e =>
    have hl := live0 (h.live e (findE_some hf).1) now
    simp [hl]
theorem keeps_store {k len : Nat} {os : List Op11} {st : Hs} {o : Op11} (sd : Nat) (now : Int) (g : GoodH k st) (h : Roomy0 (2048 * len) os st) (hk : k < len) :
    (storeH sd st (nil0 o.iv) (enN now)).1 = (if 2048 < sizeI o.iv then 4 else 0) ∧ Roomy0 (2048 * len) (os ++ [o]) (storeH sd st (nil0 o.iv) (enN now)).2 := by
  have hs : sizeI (nil0 o.iv) = sizeI o.iv := rfl
  obtain ⟨l1, l2⟩ := keeps_living h (nil0 o.iv).key now
  have hex : ∀ key, storedL (os ++ [o]) key = (storedL os key || (decide (o.iv.key = key) && decide (sizeI o.iv ≤ 2048))) := fun key => by simp [storedL]
  by_cases hl : 2048 < sizeI o.iv
  · have e1 : storeH sd st (nil0 o.iv) (enN now) = (4, st) := by unfold storeH; rw [hs, if_pos hl]
    rw [e1, if_pos hl]
    refine ⟨rfl, h.drops, h.bud, h.live, fun key => ?_⟩
    rw [h.has, hex, decide_eq_false (by omega : ¬ sizeI o.iv ≤ 2048)]
    simp
  · obtain ⟨had, hh⟩ : ∃ had, findE (nil0 o.iv).key st.ents = had := ⟨_, rfl⟩
    have hu := used_bound g.small
    have hin : ∀ e, had = some e → e.2 ∈ st.slab.inn := fun e he => by
      rw [he] at hh
      exact g.chunks.mem_iff.1 (List.mem_map.2 ⟨e, (findE_some hh).1, rfl⟩)
    have hle : 0 ≤ lessH had ∧ lessH had ≤ usedS st.slab := by
      cases had with
      | none => exact ⟨Int.le_refl _, hu.1⟩
      | some e => exact ⟨bytes_nonneg _, chunk_le (hin e rfl)⟩
    have hf : fitsS st.slab (sizeI (nil0 o.iv)) (lessH had) = true := by
      unfold fitsS
      have hb := bytes_le (clsOf (sizeI (nil0 o.iv)) : Int)
      rw [decide_eq_true_eq, h.bud]
      refine ⟨by rw [hs]; omega, hle.1, hle.2, ?_⟩
      omega
    have hr : roomH sd (nil0 o.iv) had (enN now) st = (0, st) := by
      unfold roomH roomN
      rw [if_pos hf]
    have e1 : storeH sd st (nil0 o.iv) (enN now) = (0, putH st (nil0 o.iv) had) := by
      unfold storeH
      rw [hs, if_neg hl, l1, l2, hh, hr]
      rfl
    rw [e1, if_neg hl]
    refine ⟨rfl, h.drops, ?_, fun e he => ?_, fun key => ?_⟩
    · show (takeS (freedH st had) _).bud = _
      rw [take_bud]
      cases had with
      | none => exact h.bud
      | some e => exact (free_bud _ _).trans h.bud
    · rcases mem_putE.1 he with rfl | ⟨he, _⟩
      · rfl
      · exact h.live e he
    · rw [hex]
      show (findE key (putE (nil0 o.iv, takeCk (freedH st had) (sizeI (nil0 o.iv))) st.ents)).isSome = _
      by_cases hkk : key = o.iv.key
      · subst hkk
        have e2 := find_put g.rise (nil0 o.iv, takeCk (freedH st had) (sizeI (nil0 o.iv)))
        have e3 : (nil0 o.iv, takeCk (freedH st had) (sizeI (nil0 o.iv))).1.key = o.iv.key := rfl
        rw [e3] at e2
        rw [e2]
        simp [show sizeI o.iv ≤ 2048 by omega]
      · rw [find_put_other g.rise (e := (nil0 o.iv, takeCk (freedH st had) (sizeI (nil0 o.iv)))) hkk, h.has]
        simp
        intro e
        exact absurd e.symm hkk
theorem setRow_new (W : World) (old cs : Array Value) (t : TypeId) : (W.alloc (.cells old t)).setRow W.heap.size cs = W.alloc (.cells cs t) := by
  have e : (W.heap.push (.cells old t)).modify W.heap.size (fun | .cells _ elem frozen => .cells cs elem frozen | o => o) = W.heap.push (.cells cs t) := by
    apply Array.ext
    · simp
    · intro i h1 h2
      rw [Array.getElem_modify]
      by_cases hi : W.heap.size = i
      · subst hi
        simp
      · have h3 : i < W.heap.size := by simp at h2; omega
        simp [hi, Array.getElem_push_lt h3]
  exact congrArg (fun h => ({ W with heap := h } : World)) e
theorem enN_ok {now : Int} (h : I64 now) : (enN now).ok := ⟨h, u64_lit 0, i64_lit 0, u64_lit 0⟩
theorem nil0_ok {i : Iv} (h : i.ok) : (nil0 i).ok := ⟨h.key, h.val, i64_lit 0, h.sec, h.seq⟩
theorem shLook_k (L : ShardLib Sh) {w0 w : World} {b sd n : Nat} {own : Nat → Prop} {st : Hs} {R : Part} (H : Law w0 w ((shQ L b own sd n st).and R)) (hn : n ≤ 900) (s : ByteArray) (hs : s.size ≤ 300) (en : En) (hen : en.ok) (q : Bool) (t : Hs) (hq : (livingH st s en).isSome = q) (ht : lookH st s en = t) :
    Calls Try.prog 10 #[.pointer (some ⟨b, 0, none⟩), .string s, .agg (enC en)] w fun e w' => ∃ i : It, e = .returned (.tuple #[.agg (itC i), .bool q]) ∧ ∃ own', Law w0 w' ((shQ L b own' sd n t).and R) := by
  refine (shLook_is L H hn s hs en hen).mono ?_
  rintro e w' (⟨h1, h2, own', h3⟩ | ⟨y, a, c, h1, h2, own', h3⟩)
  · rw [h1] at hq
    subst hq ht
    exact ⟨_, h2, own', h3.drop2⟩
  · rw [h1] at hq
    subst hq ht
    exact ⟨_, h2, own', h3.drop2⟩
theorem OpCell.hasG {w : World} {c off k : Nat} {o : Op11} (h : OpCell w c off k o) : ∀ n os, Has14 c off k o (Sort.grow (w.drewN n) os) := fun n os => (h.on (Nat.le_refl _) (below_gr (Gd.grown ⟨n, os, rfl⟩))).has
theorem keep2 {w w' : World} {ca off m j : Nat} {p : Op11} {x : Value} (h : Has14 ca off m p w ∧ w.cell? ⟨ca, off + j * 15 + 1, none⟩ = some x) (hg : Gd w w') (hc : ca < w.heap.size) : Has14 ca off m p w' ∧ w'.cell? ⟨ca, off + j * 15 + 1, none⟩ = some x := by
  have hb := below_gr hg.grown
  have e : ∀ o, w'.cell? ⟨ca, o, none⟩ = w.cell? ⟨ca, o, none⟩ := fun o => hb.cell (p := ⟨ca, o, none⟩) hc
  unfold Has14 at h ⊢
  simp only [e]
  exact h
theorem stored_next {os : List Op11} {m : Nat} {p : Op11} (hp : os[m]? = some p) (key : ByteArray) : storedL (os.take (m + 1)) key = (storedL (os.take m) key || (decide (p.iv.key = key) && decide (sizeI p.iv ≤ 2048))) := by
  unfold storedL
  rw [List.take_add_one, hp, List.any_append]
  simp
set_option maxRecDepth 100000 in
set_option maxHeartbeats 8000000 in
theorem shardKeeps_in (L : ShardLib Sh) (sd : Nat) (hd : sd < 18446744073709551616) (most : Int) (hm : I64 most) {w : World} {a : Option Addr} {len cap : Nat} {os : List Op11} (h : OpsAt w a len cap os) (hS : FewL os) (hl6 : len ≤ 60) (now : Int) (hnow : I64 now) (hn1 : 1 ≤ now) :
    Calls Try.prog 3 #[.int .u64 sd, .int .i64 most, .slice a len cap, .int .i64 now] w fun e w' => e = .returned (.bool true) ∧ Below w.heap.size w w' := by
  have hl := h.len_
  have hl6i : (len : Int) ≤ 60 := by omega
  have hlw : IntKind.i64.wrap (2048 * (len : Int)) = 2048 * (len : Int) := by rw [IntKind.wrap_i64]; omega
  have HB := Law.start w
  go_enter Try.func3, Try.ntmps3
  go_wp2_with (first
    | (go_at_call 4; refine (awake_any L _).mono ?_; rintro e w1 ⟨rfl, hb⟩; replace HB := HB.step (below_gr' hb); clear hb)
    | (go_at_call 5; refine (few_any (h.on HB.below)).mono ?_; rintro e w2 ⟨⟨q, rfl, hq⟩, hg⟩; obtain rfl : q = true := hq.2 hS; replace HB := HB.step hg; clear hg hq)
    | (go_at_call 6; refine (shNew_is L HB sd (2048 * (len : Int)) most hd (by unfold I64; omega) hm).mono ?_; clear HB; rintro e w3 ⟨b, own, rfl, H⟩))
  go_loopw [12, 13, 14, 15] (fun i x13 x14 x15 wr => ∃ (k : Nat) (own : Nat → Prop) (st : Hs), k ≤ len ∧ i = .int .i64 k ∧ Roomy0 (2048 * (len : Int)) (os.take k) st ∧ Law w wr ((shQ L b own sd k st).and Part.emp)) (fun i _ _ _ _ => len - (intOf i).toNat)
  case atStart => exact ⟨0, own, _, Nat.zero_le _, rfl, roomy_fresh _ _, H⟩
  case round =>
    clear H
    obtain ⟨k, own, st, hk', rfl, hR, H⟩ := hrel
    by_cases hlt : k < len
    · obtain ⟨ca, off, rfl, hcell, hok⟩ := h.at k (by omega)
      have hvi := hS.ok (List.getElem_mem (by omega)) hok
      have hki : (k : Int) < (len : Int) := by omega
      have htk : os.take (k + 1) = os.take k ++ [os[k]] := by rw [List.take_add_one, List.getElem?_eq_getElem]; rfl
      obtain ⟨o, ho⟩ : ∃ o, os[k] = o := ⟨_, rfl⟩
      rw [ho] at hcell hok hvi htk
      obtain ⟨st1, st2⟩ := keeps_store (o := o) sd now H.shGood hR hlt
      rw [← htk] at st2
      have c1 := (hcell.on (Nat.le_refl _) H.below).has
      have hbs := hok.bs
      have H2 := (H.box (.cells (itC (itOf (nil0 o.iv) o.a o.c)) 31)).rot
      have HZ3 : Hid ((itC o.it).setIfInBounds 3 (.int .i64 0) = itC (itOf (nil0 o.iv) o.a o.c)) := rfl
      have f3 : (wr.alloc (.cells (itC o.it) 31)).frozen? ⟨wr.heap.size, 3, none⟩ = false := frozen_of_row _ _ _ _ _ (World.alloc_heap_new wr _)
      have c3 : (wr.alloc (.cells (itC o.it) 31)).cell? ⟨wr.heap.size, 3, none⟩ = some (.int .i64 o.iv.exp) := (it_cells (World.alloc_heap_new wr _)).2.2.2.1
      have hrd := H2.read (l := (nil0 o.iv).val) hbs
      have ST2 := hide st2
      have ST1 := hide st1
      have hk3 : (itOf (nil0 o.iv) o.a o.c).key.size ≤ 100000 := Nat.le_trans hvi.key (by decide)
      have hv3 : (itOf (nil0 o.iv) o.a o.c).vl ≤ 100000 := Nat.le_trans hvi.val (by decide)
      have SZ : Hid (50 + ((itOf (nil0 o.iv) o.a o.c).key.size : Nat) + ((itOf (nil0 o.iv) o.a o.c).vl : Nat) = sizeI o.iv) := rfl
      clear hcell hok ho htk hbs H hR st1 st2
      obtain ⟨z, hz⟩ : ∃ z, sizeI o.iv = z := ⟨_, rfl⟩
      rw [hz] at ST1 SZ
      by_cases hbig : 2048 < z
      · rw [if_pos hbig] at ST1
        go_wp2_with (first
          | (refine wpList_store_row rfl 31 _ _ rfl wr.heap.size (itC o.it) rfl rfl _ (itC zeroIt) (World.alloc_heap_new wr _) (item_size _) rfl (item_one _) ?_; rw [setRow_new])
          | (rw [HZ3.out]; clear HZ3; refine wpList_load_row rfl 31 _ rfl wr.heap.size rfl _ (itC (itOf (nil0 o.iv) o.a o.c)) _ _ H2.q.2.1.1 Try.underlying31 rfl (item_size _) ?_)
          | (refine wpList_load_row rfl 31 _ rfl wr.heap.size rfl _ (itC (itOf (nil0 o.iv) o.a o.c)) _ _ H2.q.2.1.1 Try.underlying31 rfl (item_size _) ?_)
          | (go_at_call 7; refine (shStore_is L H2 (by omega) (nil0 o.iv) o.a o.c (enN now) (nil0_ok hvi) hrd (enN_ok hnow) _ _ ST1.out rfl).mono ?_; clear H2; rintro e w4 ⟨rfl, own4, H2⟩)
          | (go_at_call 8; refine (refSize_any _ _ hk3 hv3).mono ?_; rintro e w5 ⟨rfl, hg⟩; replace H2 := H2.step hg.grown; clear hg; rw [SZ.out]))
        go_roundw
        case rel => exact ⟨k + 1, own4, _, by omega, by go_num, ST2.out, H2.drop2⟩
        case measure => simp [intOf]; omega
      · rw [if_neg hbig] at ST1
        go_wp2_with (first
          | (refine wpList_store_row rfl 31 _ _ rfl wr.heap.size (itC o.it) rfl rfl _ (itC zeroIt) (World.alloc_heap_new wr _) (item_size _) rfl (item_one _) ?_; rw [setRow_new])
          | (rw [HZ3.out]; clear HZ3; refine wpList_load_row rfl 31 _ rfl wr.heap.size rfl _ (itC (itOf (nil0 o.iv) o.a o.c)) _ _ H2.q.2.1.1 Try.underlying31 rfl (item_size _) ?_)
          | (refine wpList_load_row rfl 31 _ rfl wr.heap.size rfl _ (itC (itOf (nil0 o.iv) o.a o.c)) _ _ H2.q.2.1.1 Try.underlying31 rfl (item_size _) ?_)
          | (go_at_call 7; refine (shStore_is L H2 (by omega) (nil0 o.iv) o.a o.c (enN now) (nil0_ok hvi) hrd (enN_ok hnow) _ _ ST1.out rfl).mono ?_; clear H2; rintro e w4 ⟨rfl, own4, H2⟩)
          | (go_at_call 8; refine (refSize_any _ _ hk3 hv3).mono ?_; rintro e w5 ⟨rfl, hg⟩; replace H2 := H2.step hg.grown; clear hg; rw [SZ.out]))
        go_roundw
        case rel => exact ⟨k + 1, own4, _, by omega, by go_num, ST2.out, H2.drop2⟩
        case measure => simp [intOf]; omega
    · obtain ⟨K, hK⟩ : ∃ K, k = K := ⟨_, rfl⟩
      have hlt2 : ¬ ((k : Int) < (len : Int)) := by omega
      have hKl : k = len := by omega
      have mixed : Try.prog.follows .mixedOrders = true := by kernel_rfl
      rw [hKl, List.take_of_length_le (by omega)] at hR
      have hR2 : Roomy0 (2048 * (len : Int)) os (quietH st) := ⟨rfl, hR.bud, hR.live, hR.has⟩
      have HD := hide hR.drops
      obtain ⟨s1, hs1⟩ : ∃ s1, quietH st = s1 := ⟨_, rfl⟩
      rw [hs1] at hR2
      have HQ := hide hs1
      have HR := hide hR2
      clear hR hR2 hs1
      rw [hK] at H hlt2 ⊢
      have hK9 : K ≤ 60 := by omega
      clear hK hKl hlt hk'
      go_wp2_with (go_at_call 9; refine (shDrops_is L H [] HD.out).mono ?_; clear H; rintro e w4 ⟨vd, own4, rfl, H⟩; rw [HQ.out] at H; obtain ⟨pd, cd, rfl⟩ := own_shape (show _ from H.q.2.1.1); replace H := H.drop2)
      go_loopw [17, 18, 19, 20, 21] (fun i x18 x19 x20 x21 wr => ∃ (j : Nat) (own : Nat → Prop), j ≤ len ∧ i = .int .i64 j ∧ Law w wr ((shQ L b own sd K s1).and Part.emp)) (fun i _ _ _ _ _ => len - (intOf i).toNat)
      case atStart => exact ⟨0, own4, Nat.zero_le _, rfl, H⟩
      case round =>
        clear H
        obtain ⟨j, own5, hj, rfl, H⟩ := hrel
        by_cases hjl : j < len
        · obtain ⟨ca, off, rfl, hcell, hok⟩ := h.at j (by omega)
          have hji : (j : Int) < (len : Int) := by omega
          have hvi := hS.ok (List.getElem_mem (by omega)) hok
          obtain ⟨o, ho⟩ : ∃ o, os[j] = o := ⟨_, rfl⟩
          rw [ho] at hcell hok hvi
          have hok3 := hvi.key
          have ck := (hcell.on (Nat.le_refl _) H.below).key
          obtain ⟨l1, l2⟩ := keeps_living HR.out o.iv.key now
          have l3 := HR.out.has o.iv.key
          rw [← l1] at l3
          have L2 := hide l2
          have L3 := hide l3
          have HC := hide hcell
          clear hcell hok l1 l2 l3 ho hvi
          go_wp2_with (first
            | (go_at_call 10; refine (shLook_k L H (by omega) o.iv.key hok3 (enN now) (enN_ok hnow) _ _ L3.out L2.out).mono ?_; clear H; rintro e w6 ⟨i6, rfl, own6, H⟩)
            | (refine wpList_store_row rfl 31 _ _ rfl w6.heap.size (itC i6) rfl rfl _ (itC zeroIt) (World.alloc_heap_new w6 _) (item_size _) rfl (item_one _) ?_; rw [setRow_new]; replace H := H.alloc (.cells (itC i6) 31)))
          go_loopw [20, 21] (fun t kk wr => ∃ (m : Nat), m ≤ len ∧ kk = .int .i64 m ∧ t = .bool (storedL (os.take m) o.iv.key) ∧ Law w wr ((shQ L b own6 sd K s1).and Part.emp)) (fun _ kk _ => len - (intOf kk).toNat)
          case atStart => exact ⟨0, Nat.zero_le _, rfl, rfl, H⟩
          case round =>
            clear H
            obtain ⟨m, hm', rfl, rfl, H⟩ := hrel
            by_cases hml : m < len
            · have hmi : (m : Int) < (len : Int) := by omega
              obtain ⟨cb, off2, e2, hcell2, hok2⟩ := h.at m (by omega)
              cases e2
              have hp0 : os[m]? = some os[m] := List.getElem?_eq_getElem (by omega)
              have hvi2 := hS.ok (List.getElem_mem (by omega)) hok2
              obtain ⟨p, hp⟩ : ∃ p, os[m] = p := ⟨_, rfl⟩
              rw [hp] at hcell2 hok2 hvi2 hp0
              have SN := hide (stored_next hp0 o.iv.key)
              have hG := (hcell2.on (Nat.le_refl _) H.below).hasG
              have d0 := fun n os => (hG n os).1
              have d1 := fun n os => (hG n os).2.1
              have d2 := fun n os => (hG n os).2.2.1
              have d3 := fun n os => (hG n os).2.2.2.1
              have d4 := fun n os => (hG n os).2.2.2.2.1
              have d5 := fun n os => (hG n os).2.2.2.2.2.1
              have d6 := fun n os => (hG n os).2.2.2.2.2.2.1
              have d7 := fun n os => (hG n os).2.2.2.2.2.2.2.1
              have d8 := fun n os => (hG n os).2.2.2.2.2.2.2.2.1
              have d9 := fun n os => (hG n os).2.2.2.2.2.2.2.2.2.1
              have hE := fun n os => (hG n os).2.2.2.2.2.2.2.2.2.2
              have HCB : Hid (ca < wr.heap.size) := hide (Nat.lt_of_lt_of_le hcell2.old H.below.size)
              have dk := fun n os => ((HC.out.on (Nat.le_refl _) H.below).hasG n os).1
              obtain ⟨z, hz⟩ : ∃ z, sizeI p.iv = z := ⟨_, rfl⟩
              have HV := hide (fun W => refSize_any (itOf p.iv p.a p.c) W (Nat.le_trans hvi2.key (by decide)) (Nat.le_trans hvi2.val (by decide)))
              rw [show (50 + ((itOf p.iv p.a p.c).key.size : Nat) + ((itOf p.iv p.a p.c).vl : Nat) : Int) = z from hz] at HV
              rw [hz] at SN
              clear hG hcell2 hok2 hvi2 hp0 hp hz
              cases ht : storedL (os.take m) o.iv.key with
              | true =>
                rw [ht] at SN
                clear d0 d1 d2 d3 d4 d5 d6 d7 d8 d9 dk HV
                go_wp2
                go_quiet (fail)
                go_wp2
                go_roundw
                case rel => exact ⟨m + 1, by omega, by go_num, by rw [SN.out]; rfl, H.drewN _⟩
                case measure => simp [intOf]; omega
              | false =>
                rw [ht] at SN
                by_cases hpk : p.iv.key = o.iv.key
                · rw [decide_eq_true hpk] at SN
                  rw [← hpk] at dk
                  clear hpk
                  by_cases hz8 : z ≤ 2048
                  · rw [decide_eq_true hz8] at SN
                    have hk := hide (show Has14 ca off m p wr.drew ∧ wr.drew.cell? ⟨ca, off + j * 15 + 1, none⟩ = some (.string p.iv.key) from ⟨⟨d0 1 #[], d1 1 #[], d2 1 #[], d3 1 #[], d4 1 #[], d5 1 #[], d6 1 #[], d7 1 #[], d8 1 #[], d9 1 #[], hE 1 #[]⟩, dk 1 #[]⟩)
                    have H1 := H.drew
                    clear d0 d1 d2 d3 d4 d5 d6 d7 d8 d9 dk hE H
                    go_upto_region 24 with fail
                    go_region_held (fun w' => Has14 ca off m p w' ∧ w'.cell? ⟨ca, off + j * 15 + 1, none⟩ = some (.string p.iv.key)) (first | exact c2 | exact hk.out) ((go_at_call 8; refine (HV.out _).mono ?_; rintro e w7 ⟨rfl, hg⟩; have c2 : Has14 ca off m p w7 ∧ w7.cell? ⟨ca, off + j * 15 + 1, none⟩ = some (.string p.iv.key) := keep2 hk.out hg HCB.out; have H2 := H1.step hg.grown))
                    go_wp2
                    go_roundw
                    case rel => exact ⟨m + 1, by omega, by go_num, by rw [SN.out]; rfl, H2⟩
                    case measure => simp [intOf]; omega
                  · rw [decide_eq_false hz8] at SN
                    have hk := hide (show Has14 ca off m p wr.drew ∧ wr.drew.cell? ⟨ca, off + j * 15 + 1, none⟩ = some (.string p.iv.key) from ⟨⟨d0 1 #[], d1 1 #[], d2 1 #[], d3 1 #[], d4 1 #[], d5 1 #[], d6 1 #[], d7 1 #[], d8 1 #[], d9 1 #[], hE 1 #[]⟩, dk 1 #[]⟩)
                    have H1 := H.drew
                    clear d0 d1 d2 d3 d4 d5 d6 d7 d8 d9 dk hE H
                    go_upto_region 24 with fail
                    go_region_held (fun w' => Has14 ca off m p w' ∧ w'.cell? ⟨ca, off + j * 15 + 1, none⟩ = some (.string p.iv.key)) (first | exact c2 | exact hk.out) ((go_at_call 8; refine (HV.out _).mono ?_; rintro e w7 ⟨rfl, hg⟩; have c2 : Has14 ca off m p w7 ∧ w7.cell? ⟨ca, off + j * 15 + 1, none⟩ = some (.string p.iv.key) := keep2 hk.out hg HCB.out; have H2 := H1.step hg.grown))
                    go_wp2
                    go_roundw
                    case rel => exact ⟨m + 1, by omega, by go_num, by rw [SN.out, decide_eq_false (show ¬ z ≤ 2048 by omega)]; rfl, H2⟩
                    case measure => simp [intOf]; omega
                · rw [decide_eq_false hpk] at SN
                  have hne := str_ne hpk
                  clear hpk
                  have p0 : wr.cell? ⟨ca, off + m * 15 + 1, none⟩ = some (.string p.iv.key) := d0 0 #[]
                  have p1 : wr.cell? ⟨ca, off + j * 15 + 1, none⟩ = some (.string o.iv.key) := dk 0 #[]
                  clear d0 d1 d2 d3 d4 d5 d6 d7 d8 d9 dk HV
                  go_wp2
                  go_quiet (fail)
                  go_wp2
                  go_roundw
                  case rel => exact ⟨m + 1, by omega, by go_num, by rw [SN.out]; simp, H.drewN _⟩
                  case measure => simp [intOf]; omega
            · have e1 : os.take m = os := List.take_of_length_le (by omega)
              have hmf : ¬ ((m : Int) < (len : Int)) := by omega
              rw [e1]
              clear e1 HR HC L2 L3
              generalize storedL os o.iv.key = q at *
              go_wp2
              go_roundw
              case rel => exact ⟨j + 1, own6, by omega, by go_num, H⟩
              case measure => simp [intOf]; omega
        · have hjf : ¬ ((j : Int) < (len : Int)) := by omega
          go_wp2
          go_ret
          exact ⟨rfl, H.below⟩
set_option maxRecDepth 100000 in
set_option maxHeartbeats 4000000 in
theorem shardKeeps_out (L : ShardLib Sh) (sd : Nat) (hd : sd < 18446744073709551616) (most : Int) (hm : I64 most) {w : World} {a : Option Addr} {len cap : Nat} {os : List Op11} (h : OpsAt w a len cap os) (now : Int) (_hnow : I64 now) (hS : ¬ (FewL os ∧ len ≤ 60 ∧ 1 ≤ now)) :
    Calls Try.prog 3 #[.int .u64 sd, .int .i64 most, .slice a len cap, .int .i64 now] w fun e w' => e = .returned (.bool true) ∧ Below w.heap.size w w' := by
  have HB := Law.start w
  have hmx := h.2
  unfold maxLen at hmx
  obtain ⟨bw, hbw⟩ : ∃ bw, IntKind.i64.wrap (2048 * (len : Int)) = bw := ⟨_, rfl⟩
  have hwI : I64 bw := by rw [← hbw]; unfold I64; rw [IntKind.wrap_i64]; omega
  by_cases hs : FewL os
  case neg =>
    clear hS
    go_enter Try.func3, Try.ntmps3
    go_wp2_with (first
      | (go_at_call 4; refine (awake_any L _).mono ?_; rintro e w1 ⟨rfl, hb⟩; replace HB := HB.step (below_gr' hb); clear hb)
      | (go_at_call 5; refine (few_any (h.on HB.below)).mono ?_; rintro e w2 ⟨⟨q, rfl, hq⟩, hg⟩; obtain rfl : q = false := Bool.eq_false_iff.2 fun e => hs (hq.1 e); replace HB := HB.step hg; clear hg hq)
      | (go_at_call 6; refine (shNew_is L HB sd bw most hd hwI hm).mono ?_; clear HB; rintro e w3 ⟨b, own, rfl, H⟩))
    go_ret
    exact ⟨rfl, H.below⟩
  by_cases h6 : len ≤ 60
  case neg =>
    have h6i : (60 : Int) < (len : Int) := by omega
    clear hS
    go_enter Try.func3, Try.ntmps3
    go_wp2_with (first
      | (go_at_call 4; refine (awake_any L _).mono ?_; rintro e w1 ⟨rfl, hb⟩; replace HB := HB.step (below_gr' hb); clear hb)
      | (go_at_call 5; refine (few_any (h.on HB.below)).mono ?_; rintro e w2 ⟨⟨q, rfl, hq⟩, hg⟩; obtain rfl : q = true := hq.2 hs; replace HB := HB.step hg; clear hg hq)
      | (go_at_call 6; refine (shNew_is L HB sd bw most hd hwI hm).mono ?_; clear HB; rintro e w3 ⟨b, own, rfl, H⟩))
    go_ret
    exact ⟨rfl, H.below⟩
  case pos =>
    have h6i : (len : Int) ≤ 60 := by omega
    have hnw : now < 1 := Int.not_le.1 fun hc => hS ⟨hs, h6, hc⟩
    clear hS
    go_enter Try.func3, Try.ntmps3
    go_wp2_with (first
      | (go_at_call 4; refine (awake_any L _).mono ?_; rintro e w1 ⟨rfl, hb⟩; replace HB := HB.step (below_gr' hb); clear hb)
      | (go_at_call 5; refine (few_any (h.on HB.below)).mono ?_; rintro e w2 ⟨⟨q, rfl, hq⟩, hg⟩; obtain rfl : q = true := hq.2 hs; replace HB := HB.step hg; clear hg hq)
      | (go_at_call 6; refine (shNew_is L HB sd bw most hd hwI hm).mono ?_; clear HB; rintro e w3 ⟨b, own, rfl, H⟩))
    go_ret
    exact ⟨rfl, H.below⟩
theorem shardKeeps_walk (L : ShardLib Sh) (W : World) (a0 : Int) (w0 : (Lit.int .u64 a0).wf = true) (a1 : Int) (w1 : (Lit.int .i64 a1).wf = true) (a2 : Option Addr) (len2 cap2 : Nat) (z2 : List Op11) (w2 : OpsAt W a2 len2 cap2 z2) (a3 : Int) (w3 : (Lit.int .i64 a3).wf = true) :
    Calls Try.prog 3 #[.int .u64 a0, .int .i64 a1, .slice a2 len2 cap2, .int .i64 a3] W fun e W' => e = .returned (.bool true) ∧ Below W.heap.size W W' := by
  obtain ⟨h0, h1⟩ := u64_wf w0
  obtain ⟨sd, rfl⟩ := Int.eq_ofNat_of_zero_le h0
  by_cases h : FewL z2 ∧ len2 ≤ 60 ∧ 1 ≤ a3
  · exact shardKeeps_in L sd (by omega) a1 (i64_wf w1) w2 h.1 h.2.1 a3 (i64_wf w3) h.2.2
  · exact shardKeeps_out L sd (by omega) a1 (i64_wf w1) w2 a3 (i64_wf w3) h
end Go.Proofs.Ytckjjfkfapfdaaa
