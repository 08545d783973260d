/- HashSeveral returns true for every seed, every text and every two numbers, and writes nothing that was there. Conditions: none. -/
import Derived.Test.YtemhndjdfkkkhaaHashAwake
import Derived.Test.YtemhndjdfkkkhaaHashRef
import Derived.Test.YtemhndjdfkkkhaaSeveral
namespace Go.Proofs.Ytemhndjdfkkkhaa
open Go.RowKit Go.Shelf
attribute [local go_sem] Oper.semAt_some

/-- The boxes that no round writes. -/
def Const7 (H seed : Nat) (s : ByteArray) (most : Int) (W : World) : Prop :=
  (Boxed W H 22 (.int .u64 seed) ∧ Boxed W (H + 1) 9 (.string s)) ∧ (Boxed W (H + 1 + 1) 3 (.int .i64 most) ∧ Boxed W (H + 1 + 1 + 1) 4 (.bool false)) ∧
    (Boxed W (H + 1 + 1 + 1 + 1 + 1) 22 (.int .u64 seed) ∧ Boxed W (H + 1 + 1 + 1 + 1 + 1 + 1) 9 (.string s))
theorem const7_own {β : Type} (B H seed : Nat) (s : ByteArray) (most : Int) : OwnFrom B (fun (_ : β) W => Const7 H seed s most W) :=
  OwnFrom.and (OwnFrom.and (Own.from (boxed_own _ _ (fun _ => _)) _) (Own.from (boxed_own _ _ (fun _ => _)) _))
    (OwnFrom.and (OwnFrom.and (Own.from (boxed_own _ _ (fun _ => _)) _) (Own.from (boxed_own _ _ (fun _ => _)) _)) (OwnFrom.and (Own.from (boxed_own _ _ (fun _ => _)) _) (Own.from (boxed_own _ _ (fun _ => _)) _)))
theorem Const7.other {H seed : Nat} {s : ByteArray} {most : Int} {W : World} (h : Const7 H seed s most W) (v : Value) : Const7 H seed s most (W.setCell ⟨H + 1 + 1 + 1 + 1, 0, none⟩ v) :=
  ⟨⟨h.1.1.other (by omega) v, h.1.2.other (by omega) v⟩, ⟨h.2.1.1.other (by omega) v, h.2.1.2.other (by omega) v⟩, h.2.2.1.other (by omega) v, h.2.2.2.other (by omega) v⟩
theorem boxes8 (w : World) (seed : Nat) (s : ByteArray) (many most : Int) : ∃ W0, ((((((((w.alloc (.cells #[.int .u64 seed] 22)).alloc (.cells #[.string s] 9)).alloc (.cells #[.int .i64 most] 3)).alloc (.cells #[.bool false] 4)).alloc (.cells #[.int .i64 0] 3)).alloc (.cells #[.int .u64 seed] 22)).alloc (.cells #[.string s] 9)).alloc (.cells #[.int .i64 many] 3)) = W0 ∧
    Const7 w.heap.size seed s most W0 ∧ Boxed W0 (w.heap.size + 1 + 1 + 1 + 1) 3 (.int .i64 0) ∧ Boxed W0 (w.heap.size + 1 + 1 + 1 + 1 + 1 + 1 + 1) 3 (.int .i64 many) ∧ W0.heap.size = w.heap.size + 8 ∧ Below w.heap.size w W0 := by
  refine ⟨_, rfl, ?_⟩
  have b0 := Boxed.new w 22 (.int .u64 seed)
  have b1 := Boxed.new (w.alloc (.cells #[.int .u64 seed] 22)) 9 (.string s)
  have b2 := Boxed.new ((w.alloc (.cells #[.int .u64 seed] 22)).alloc (.cells #[.string s] 9)) 3 (.int .i64 most)
  have b3 := Boxed.new (((w.alloc (.cells #[.int .u64 seed] 22)).alloc (.cells #[.string s] 9)).alloc (.cells #[.int .i64 most] 3)) 4 (.bool false)
  have b4 := Boxed.new ((((w.alloc (.cells #[.int .u64 seed] 22)).alloc (.cells #[.string s] 9)).alloc (.cells #[.int .i64 most] 3)).alloc (.cells #[.bool false] 4)) 3 (.int .i64 0)
  have b5 := Boxed.new (((((w.alloc (.cells #[.int .u64 seed] 22)).alloc (.cells #[.string s] 9)).alloc (.cells #[.int .i64 most] 3)).alloc (.cells #[.bool false] 4)).alloc (.cells #[.int .i64 0] 3)) 22 (.int .u64 seed)
  have b6 := Boxed.new ((((((w.alloc (.cells #[.int .u64 seed] 22)).alloc (.cells #[.string s] 9)).alloc (.cells #[.int .i64 most] 3)).alloc (.cells #[.bool false] 4)).alloc (.cells #[.int .i64 0] 3)).alloc (.cells #[.int .u64 seed] 22)) 9 (.string s)
  have b7 := Boxed.new (((((((w.alloc (.cells #[.int .u64 seed] 22)).alloc (.cells #[.string s] 9)).alloc (.cells #[.int .i64 most] 3)).alloc (.cells #[.bool false] 4)).alloc (.cells #[.int .i64 0] 3)).alloc (.cells #[.int .u64 seed] 22)).alloc (.cells #[.string s] 9)) 3 (.int .i64 many)
  simp only [World.size_alloc] at b1 b2 b3 b4 b5 b6 b7
  refine ⟨⟨⟨((((((b0.alloc _).alloc _).alloc _).alloc _).alloc _).alloc _).alloc _, (((((b1.alloc _).alloc _).alloc _).alloc _).alloc _).alloc _⟩, ⟨((((b2.alloc _).alloc _).alloc _).alloc _).alloc _, (((b3.alloc _).alloc _).alloc _).alloc _⟩, (b5.alloc _).alloc _, b6.alloc _⟩, ((b4.alloc _).alloc _).alloc _, b7, by simp only [World.size_alloc], ?_⟩
  exact ((((((((Below.refl _ w).alloc (Nat.le_refl _) _).alloc (by simp only [World.size_alloc]; omega) _).alloc (by simp only [World.size_alloc]; omega) _).alloc (by simp only [World.size_alloc]; omega) _).alloc (by simp only [World.size_alloc]; omega) _).alloc (by simp only [World.size_alloc]; omega) _).alloc (by simp only [World.size_alloc]; omega) _).alloc (by simp only [World.size_alloc]; omega) _

/-- Behind the last store: the answer lies in its cell, and nothing that was there is written. -/
theorem last_store {w W : World} {R D : Nat} {t : TypeId} {b0 b : Bool} (hR : Boxed W R t (.bool b0)) (hD : w.heap.size ≤ D) (hRD : R ≠ D) (hwR : w.heap.size ≤ R) (hB : Below w.heap.size w W) (hK : W.heap[D]? = some (.deferred (some []))) :
    (W.setCell ⟨R, 0, none⟩ (.bool b)).heap[D]? = some (.deferred (some [])) ∧ ((W.setCell ⟨R, 0, none⟩ (.bool b)).putObj D (.deferred none)).cell? ⟨R, 0, none⟩ = some (.bool b) ∧ Below w.heap.size w ((W.setCell ⟨R, 0, none⟩ (.bool b)).putObj D (.deferred none)) := by
  have h1 := (KeepsOthers.setCell W ⟨R, 0, none⟩ (.bool b)).same D _ hK rfl
  refine ⟨h1, ?_, ?_⟩
  · rw [World.cell?_of_block (w := W.setCell ⟨R, 0, none⟩ (.bool b)) (World.putObj_heap_other hRD)]
    exact (hR.set (.bool b)).cell
  · exact (hB.setCell (p := ⟨R, 0, none⟩) hwR (.bool b)).trans (belowK_b (w := w) (Nat.le_refl _) _ D _ _ hD h1 rfl rfl)

set_option maxRecDepth 100000 in
set_option maxHeartbeats 4000000 in
theorem hashSeveral_in (seed : Nat) (_hd : seed < 18446744073709551616) (s : ByteArray) (hs : s.size ≤ 1000) (many : Int) (hm : many ≤ 100) (most : Int) (q1 : 1 ≤ most) (q2 : most ≤ 100) (w : World) :
    Calls Try.prog 4 #[.int .u64 seed, .string s, .int .i64 many, .int .i64 most] w fun e w' => e = .returned (.bool true) ∧ Below w.heap.size w w' := by
  refine (callsIn_wide (n := 6)).1 ?_
  have hsi : (s.size : Int) ≤ 1000 := by omega
  have hs2 : s.size ≤ 140737488351232 := by omega
  refine callsIn_of_wp_marks Try.func4 rfl trivial ?_ rfl
  simp only [Try.ntmps4, List.size_toArray, List.length_cons, List.length_nil, Nat.reduceAdd, Nat.reduceSub, Array.replicate_succ, Array.replicate_zero, List.push_toArray, List.append_toArray, List.nil_append, List.cons_append]
  gi_wp2_with (first
    | (refine ⟨trivial, ?_⟩; gi_at_call 9; refine (callsIn_wide.2 (awake_any _)).mono ?_; rintro e w1 ⟨rfl, rfl⟩)
    | (refine ⟨trivial, ?_⟩; gi_at_call 16; refine (severalMk_in (6 - 1) seed s many _).mono ?_; rintro e w1 ⟨rfl, rfl⟩))
  obtain ⟨W0, hW0, c0, b4, b7, hsz, hB0⟩ := boxes8 w seed s many most
  rw [hW0]
  clear hW0
  refine wpIn_rangeFunc_ownG rfl (by decide) (gf := 17) (lb := #[.pointer (some ⟨w.heap.size + 1 + 1 + 1 + 1 + 1 + 1 + 1, 0, none⟩), .pointer (some ⟨w.heap.size + 1 + 1 + 1 + 1 + 1, 0, none⟩), .pointer (some ⟨w.heap.size + 1 + 1 + 1 + 1 + 1 + 1, 0, none⟩)]) rfl trivial (enters_of Try.func17 (by kernel_rfl) rfl)
    (several_stops (6 - 1) (by decide) _ _ _ seed s hs2 many (by omega) W0 (by omega) (by omega) (by omega) b7.cell c0.2.2.1.cell c0.2.2.2.cell) boxesKept_t (boxesKept_b (by omega) (by omega)) (Below.refl _ _) (fun _ => rfl)
    (fun pre W => (Boxed W (w.heap.size + 1 + 1 + 1 + 1) 3 (.int .i64 pre.length) ∧ Const7 w.heap.size seed s most W) ∧ ((pre.length : Int) < most ∧ Below w.heap.size w W))
    (fun c pre W => ((c = .ret ∧ ¬ pre <+: List.range many.toNat) ∨ (c = .exit 0 ∧ (pre.length : Int) = most)) ∧ ((c = .exit 0 → Boxed W (w.heap.size + 1 + 1 + 1 + 1) 3 (.int .i64 most) ∧ Const7 w.heap.size seed s most W) ∧ Below w.heap.size w W))
    (OwnFrom.and (OwnFrom.and (Own.from (boxed_own (w.heap.size + 1 + 1 + 1 + 1) 3 (fun pre : List Nat => .int .i64 pre.length)) _) (const7_own _ _ _ _ _)) (OwnFrom.and (ownFrom_pure _ _) (ownFrom_below (Nat.le_refl _) (by omega))))
    (fun c => OwnFrom.and (ownFrom_pure _ _) (OwnFrom.and (fun p W W' row hs hg hr hc => OwnFrom.and (Own.from (boxed_own (w.heap.size + 1 + 1 + 1 + 1) 3 (fun _ : List Nat => .int .i64 most)) _) (const7_own _ _ _ _ _) p W W' row (hs hc) hg hr) (ownFrom_below (Nat.le_refl _) (by omega))))
    ⟨⟨b4, c0⟩, by simp; omega, hB0⟩ ?a1 ?assign ?body ?done ?stop
  case assign =>
    intro l x W K hK
    unfold sevV
    gi_wp2
    exact hK
  case body =>
    rintro l pre x W ⟨⟨hn, hc⟩, hlt, hB⟩ hltN
    have hcn := hn.cell
    have hfn := hn.frozen
    have hcd := hc.1.1.cell
    have hcs := hc.1.2.cell
    have hcm := hc.2.1.1.cell
    have hcr := hc.2.1.2.cell
    have hfr := hc.2.1.2.frozen
    by_cases hx : x = pre.length
    · subst hx
      obtain ⟨sd, hsd⟩ : ∃ sd : Nat, sd = (seed + pre.length) % 18446744073709551616 := ⟨_, rfl⟩
      have hsl : sd < 18446744073709551616 := by omega
      have HW : Hid (IntKind.u64.wrap ((seed : Int) + (pre.length : Int)) = (sd : Int)) := by
        rw [hsd]
        exact seed_walk seed pre.length
      have hv : sevN seed s.data.toList pre.length = ofN sd s.data.toList := by unfold sevN; rw [hsd]
      have hn2 := hn.set (.int .i64 ((pre.length : Int) + 1))
      have hc2 := hc.other (.int .i64 ((pre.length : Int) + 1))
      have hk2 : BoxesKept (w.heap.size + 1 + 1 + 1 + 1 + 1) (w.heap.size + 1 + 1 + 1 + 1 + 1 + 1) W _ := boxesKept_of hc.2.2.1 hc.2.2.2 hc2.2.2.1 hc2.2.2.2
      have hB2 := hB.setCell (p := ⟨w.heap.size + 1 + 1 + 1 + 1, 0, none⟩) (by show _ ≤ w.heap.size + 1 + 1 + 1 + 1; omega) (.int .i64 ((pre.length : Int) + 1))
      have hko := (KeepsOthers.setCell W ⟨w.heap.size + 1 + 1 + 1 + 1, 0, none⟩ (.int .i64 ((pre.length : Int) + 1))).from W0.heap.size
      have hcn2 := hn2.cell
      have hcm2 := hc2.2.1.1.cell
      have hl0 : (0 : Int) ≤ (pre.length : Int) := by omega
      have hcast : (((pre ++ [pre.length]).length : Nat) : Int) = (pre.length : Int) + 1 := by simp
      have hl1 : (pre.length : Int) < 100 := by omega
      rw [hv]
      clear hv hsd hltN
      by_cases he : (pre.length : Int) + 1 = most
      · have heb : ((pre.length : Int) + 1 == most) = true := by simpa using he
        gi_wp2_with (refine ⟨trivial, ?_⟩; gi_at_call 13; rw [HW.out]; refine (CallsIn.inRound l (callsIn_wide.2 (rof_any sd hsl s hs2 _))).mono ?_; rintro e w' ⟨rfl, rfl⟩)
        rw [he] at hko hn2 hc2 hB2
        exact ⟨hko, .inr ⟨rfl, hcast.trans he⟩, fun _ => ⟨hn2, hc2⟩, hB2⟩
      · have heb : ((pre.length : Int) + 1 == most) = false := by simpa using he
        gi_wp2_with (refine ⟨trivial, ?_⟩; gi_at_call 13; rw [HW.out]; refine (CallsIn.inRound l (callsIn_wide.2 (rof_any sd hsl s hs2 _))).mono ?_; rintro e w' ⟨rfl, rfl⟩)
        exact ⟨hko, hk2, ⟨by rw [hcast]; exact hn2, hc2⟩, by rw [hcast]; omega, hB2⟩
    · have hxb : ((x : Int) != (pre.length : Int)) = true := by simp; omega
      gi_wp2
      refine ⟨trivial, ?_⟩
      gi_wp2
      exact ⟨(KeepsOthers.setCell _ _ _).from _, .inl ⟨rfl, fun h => hx (range_snoc h)⟩, fun h => (by cases h), hB.setCell (p := ⟨w.heap.size + 1 + 1 + 1, 0, none⟩) (by show _ ≤ w.heap.size + 1 + 1 + 1; omega) _⟩
  case done =>
    rintro D ys W hD rfl ⟨⟨hn, hc⟩, hlt, hB⟩ hK
    rw [List.length_range] at hn hlt
    have hcn := hn.cell
    have hcm := hc.2.1.1.cell
    have hcr := hc.2.1.2.cell
    have hfr := hc.2.1.2.frozen
    obtain ⟨l1, l2, l3⟩ := last_store (b := true) hc.2.1.2 (show w.heap.size ≤ D by omega) (by omega) (by omega) hB hK
    by_cases h0 : many < 0
    · have hN : ((many.toNat : Nat) : Int) = 0 := by omega
      rw [hN] at hcn
      gi_wp2
      refine ⟨by simp, .inl ⟨_, _, rfl, run_takeDeferred l1, ?_⟩⟩
      refine ⟨.bool true, ?_, rfl, l3⟩
      rw [results_cell rfl]
      go_simp
    · have hN : ((many.toNat : Nat) : Int) = many := by omega
      rw [hN] at hcn hlt
      have h0' : 0 ≤ many := by omega
      gi_wp2
      refine ⟨by simp, .inl ⟨_, _, rfl, run_takeDeferred l1, ?_⟩⟩
      refine ⟨.bool true, ?_, rfl, l3⟩
      rw [results_cell rfl]
      go_simp
  case stop =>
    rintro D c pre W hD hpre ⟨⟨rfl, hno⟩ | ⟨rfl, hlen⟩, hbx, hB⟩ hK
    · exact (hno hpre).elim
    · obtain ⟨hn, hc⟩ := hbx rfl
      have hcn := hn.cell
      have hcm := hc.2.1.1.cell
      have hcr := hc.2.1.2.cell
      have hfr := hc.2.1.2.frozen
      obtain ⟨l1, l2, l3⟩ := last_store (b := true) hc.2.1.2 (show w.heap.size ≤ D by omega) (by omega) (by omega) hB hK
      have hle : most ≤ many := by
        have := hpre.length_le
        rw [List.length_range] at this
        omega
      have h0 : 0 ≤ many := by omega
      by_cases h1 : most < many
      · gi_wp2
        refine ⟨by simp, .inl ⟨_, _, rfl, run_takeDeferred l1, ?_⟩⟩
        refine ⟨.bool true, ?_, rfl, l3⟩
        rw [results_cell rfl]
        go_simp
      · obtain rfl : many = most := by omega
        gi_wp2
        refine ⟨by simp, .inl ⟨_, _, rfl, run_takeDeferred l1, ?_⟩⟩
        refine ⟨.bool true, ?_, rfl, l3⟩
        rw [results_cell rfl]
        go_simp

set_option maxHeartbeats 2000000 in
/-- Beyond the statement's bounds the law returns what awake said. -/
theorem hashSeveral_out (seed : Int) (s : ByteArray) (many most : Int) (h : 1000 < s.size ∨ 100 < many ∨ most < 1 ∨ 100 < most) (w : World) :
    Calls Try.prog 4 #[.int .u64 seed, .string s, .int .i64 many, .int .i64 most] w fun e w' => e = .returned (.bool true) ∧ Below w.heap.size w w' := by
  have hB : Below w.heap.size w ((((w.alloc (.cells #[.int .u64 seed] 22)).alloc (.cells #[.string s] 9)).alloc (.cells #[.int .i64 most] 3)).alloc (.cells #[.bool true] 4)) :=
    ((((Below.refl _ w).alloc (Nat.le_refl _) _).alloc (by simp only [World.size_alloc]; omega) _).alloc (by simp only [World.size_alloc]; omega) _).alloc (by simp only [World.size_alloc]; omega) _
  have h' : (1000 : Int) < (s.size : Int) ∨ ((s.size : Int) ≤ 1000 ∧ 100 < many) ∨ ((s.size : Int) ≤ 1000 ∧ many ≤ 100 ∧ most < 1) ∨ ((s.size : Int) ≤ 1000 ∧ many ≤ 100 ∧ 1 ≤ most ∧ 100 < most) := by omega
  clear h
  rcases h' with h | ⟨h, g⟩ | ⟨h, g, k⟩ | ⟨h, g, k, m⟩
  all_goals
    go_enter Try.func4, Try.ntmps4
    go_wp2_with (go_at_call 9; refine (awake_any _).mono ?_; rintro e w1 ⟨rfl, rfl⟩)
    refine bodyPost_ret (v := .bool true) ?_ rfl ⟨rfl, hB⟩
    rw [results_cell rfl]
    go_simp
theorem hashSeveral_walk (a0 : Int) (w0 : (Lit.int .u64 a0).wf = true) (s : ByteArray) (_w1 : s.size ≤ 140737488351232) (many : Int) (_w2 : (Lit.int .i64 many).wf = true) (most : Int) (_w3 : (Lit.int .i64 most).wf = true) (W : World) :
    Calls Try.prog 4 #[.int .u64 a0, .string s, .int .i64 many, .int .i64 most] W fun e W' => e = .returned (.bool true) ∧ Below W.heap.size W W' := by
  obtain ⟨p0, p1⟩ := u64_wf w0
  by_cases h : 1000 < s.size ∨ 100 < many ∨ most < 1 ∨ 100 < most
  · exact hashSeveral_out a0 s many most h W
  · obtain ⟨a, rfl⟩ := Int.eq_ofNat_of_zero_le p0
    exact hashSeveral_in a (by omega) s (by omega) many (by omega) most (by omega) (by omega) W
end Go.Proofs.Ytemhndjdfkkkhaa
