/- Package binin's extras, and whether a key and a value fit. Conditions: the command lies in a block. -/
import Derived.Test.YtegaljpllcgaaaaBinPCut
import Derived.Test.YtegaljpllcgaaaaFrameH
namespace Go.Proofs.Ytegaljpllcgaaaa
set_option linter.unusedVariables false
open Go.RowKit Go.Shelf

theorem setAtB {w : World} {K : Nat} {cs : Array Value} {t : TypeId} (j : Nat) (v : Value) (h : w.heap[K]? = some (.cells cs t (0, 0))) : (w.setCell ⟨K, j, none⟩ v).heap[K]? = some (.cells (cs.setIfInBounds j v) t (0, 0)) := heap_setCell_same w K j cs t v h
theorem setGrB (w : World) (K j : Nat) (v : Value) : w.grownBy (w.setCell ⟨K, j, none⟩ v) (some K) :=
  ⟨rfl, rfl, rfl, by rw [World.size_setCell]; exact Nat.le_refl _, fun k hk hn => heap_setCell_other _ _ _ _ (fun e => hn (by rw [show k = K from e]))⟩
theorem Bu.far {w w' : World} {g o m cap K : Nat} {l : List UInt8} (h : Bu w (some ⟨g, o, none⟩) m cap l) (hg : w.grownBy w' (some K)) (hk : g ≠ K) : Bu w' (some ⟨g, o, none⟩) m cap l := by
  refine ⟨h.n, ?_, h.c, h.m⟩
  rcases h.b with ⟨h1, h2, h3⟩ | ⟨b, off, r⟩
  · exact .inl ⟨h1, h2, h3⟩
  · refine .inr ⟨b, off, ?_⟩
    have e : g = b := by have := r.at_; cases this; rfl
    have hb : w'.heap[b]? = w.heap[b]? := hg.block b r.old (fun e' => hk (by rw [e]; exact (Option.some.inj e').symm ▸ rfl))
    have hcell : ∀ i, i < m → w'.cell? ⟨b, off + i, none⟩ = some (.int .u8 ((ints l).getD i 0)) := fun i hi => by
      rw [World.cell?_of_block (a := ⟨b, off + i, none⟩) hb]
      exact r.cell i hi
    obtain ⟨q1, q2, q3, q4, q5, q6, q7⟩ := r
    exact ⟨q1, q2, q3, q4, q5, hcell, Nat.lt_of_lt_of_le q7 hg.size⟩
theorem gr_self {a b c : World} {K : Nat} (h : a.grownBy b (some K)) (k : b.grownBy c (some K)) : a.grownBy c (some K) :=
  ⟨k.os.trans h.os, k.tape.trans h.tape, k.output.trans h.output, Nat.le_trans h.size k.size, fun i hi hn => (k.block i (Nat.lt_of_lt_of_le hi h.size) hn).trans (h.block i hi hn)⟩
/-- A command ahead of its extras. -/
def cell0 (z : Int) (key : ByteArray) (va : Option Addr) (n vc : Nat) (fl exp cas del ini : Int) (mk : Bool) : Array Value :=
  #[.int .i64 z, .string key, .slice va n vc, .int .u32 fl, .int .i64 exp, .int .u64 cas, .int .u64 del, .int .u64 ini, .bool mk, .bool false]
/-- Whether the extras are such as should be, and the command with them. -/
def RdE (w : World) (K : Nat) (ok : Bool) (cs : Array Value) (e : Ending) (w' : World) : Prop :=
  e = .returned (.bool ok) ∧ w.grownBy w' (some K) ∧ (ok = true → w'.heap[K]? = some (.cells cs 39 (0, 0)))
theorem rdE_no {w : World} {K : Nat} {cs : Array Value} : RdE w K false cs (.returned (.bool false)) w := ⟨rfl, ⟨rfl, rfl, rfl, Nat.le_refl _, fun _ _ _ => rfl⟩, fun h => by cases h⟩
section
variable {w : World} {K g off m cap : Nat} {x : List UInt8} {z fl exp cas del ini : Int} {key : ByteArray} {va : Option Addr} {n vc : Nat} {mk : Bool}
set_option maxRecDepth 100000 in
set_option maxHeartbeats 4000000 in
theorem exp_any (hK : w.heap[K]? = some (.cells (cell0 z key va n vc fl exp cas del ini mk) 39 (0, 0))) (hx : Bu w (some ⟨g, off, none⟩) m cap x) (hm : m ≤ 100000) :
    Calls Try.prog 44 #[.pointer (some ⟨K, 0, none⟩), .slice (some ⟨g, off, none⟩) m cap] w fun e w' => RdE w K (decide (m = 4)) (cell0 z key va n vc fl (numB x) cas del ini mk) e w' := by
  by_cases h4 : m = 4
  · subst h4
    have H1 := hide (pget_any hx (by decide) (by decide))
    have e1 := i64_id (numB_bd x).1 (numB_four hx.n)
    generalize numB x = y at *
    have c4 : w.cell? ⟨K, 4, none⟩ = some (.int .i64 exp) := by unfold World.cell?; rw [hK]; rfl
    have f4 : w.frozen? ⟨K, 4, none⟩ = false := frozen_of_row _ _ _ _ _ hK
    have h5 := hide (setAtB 4 (.int .i64 y) hK)
    have g5 := hide (setGrB w K 4 (.int .i64 y))
    clear hK hx hm
    go_enter Try.func44, Try.ntmps44
    go_wp2_with (go_at_call 31; refine H1.out.mono ?_; rintro e w2 ⟨rfl, rfl⟩)
    go_ret
    exact ⟨rfl, g5.out, fun _ => h5.out⟩
  · rw [show decide (m = 4) = false from decide_eq_false h4]
    have n4 : ((m : Int) == 4) = false := by rw [beq_eq_false_iff_ne]; omega
    have n4b : ((m : Int) != 4) = true := by simpa using (show ¬ (m : Int) = 4 by omega)
    clear hK hx hm h4
    go_enter Try.func44, Try.ntmps44
    go_wp2
    go_ret
    exact rdE_no
set_option maxRecDepth 100000 in
set_option maxHeartbeats 4000000 in
theorem storing_any (hK : w.heap[K]? = some (.cells (cell0 z key va n vc fl exp cas del ini mk) 39 (0, 0))) (hx : Bu w (some ⟨g, off, none⟩) m m x) (hm : m ≤ 100000) (hg : g ≠ K) :
    Calls Try.prog 42 #[.pointer (some ⟨K, 0, none⟩), .slice (some ⟨g, off, none⟩) m m] w fun e w' => RdE w K (decide (m = 8)) (cell0 z key va n vc (numB (x.take 4)) (numB ((x.drop 4).take 4)) cas del ini mk) e w' := by
  by_cases h8 : m = 8
  · subst h8
    have p1 := hx.part3 0 4 (by decide)
    have p2 := hx.part3 4 4 (by decide)
    rw [List.drop_zero, Nat.add_zero] at p1
    have H1 := hide (pget_any p1 (by decide) (by decide))
    have e1 := u32_id (numB_bd (x.take 4)).1 (numB_four p1.n)
    have c3 : w.cell? ⟨K, 3, none⟩ = some (.int .u32 fl) := by unfold World.cell?; rw [hK]; rfl
    have f3 : w.frozen? ⟨K, 3, none⟩ = false := frozen_of_row _ _ _ _ _ hK
    have h5 := setAtB 3 (.int .u32 (numB (x.take 4))) hK
    have g5 := setGrB w K 3 (.int .u32 (numB (x.take 4)))
    have H2 := hide (exp_any (z := z) (key := key) (va := va) (n := n) (vc := vc) (fl := numB (x.take 4)) (exp := exp) (cas := cas) (del := del) (ini := ini) (mk := mk) h5 (p2.far g5 hg) (by decide))
    replace g5 := hide g5
    generalize numB (x.take 4) = y at *
    clear hK hx hm p1 p2 h5
    go_enter Try.func42, Try.ntmps42
    go_wp2_with (first
      | (go_at_call 31; refine H1.out.mono ?_; rintro e w2 ⟨rfl, rfl⟩)
      | (go_at_call 44; refine H2.out.mono ?_; rintro e w3 ⟨rfl, g3, h3⟩))
    go_ret
    exact ⟨rfl, gr_self g5.out g3, fun _ => h3 rfl⟩
  · rw [show decide (m = 8) = false from decide_eq_false h8]
    have n4 : ((m : Int) == 8) = false := by rw [beq_eq_false_iff_ne]; omega
    have n4b : ((m : Int) != 8) = true := by simpa using (show ¬ (m : Int) = 8 by omega)
    clear hK hx hm h8
    go_enter Try.func42, Try.ntmps42
    go_wp2
    go_ret
    exact rdE_no
set_option maxRecDepth 100000 in
set_option maxHeartbeats 4000000 in
theorem counting_any (hK : w.heap[K]? = some (.cells (cell0 z key va n vc fl 0 cas del ini false) 39 (0, 0))) (hx : Bu w (some ⟨g, off, none⟩) m m x) (hm : m ≤ 100000) (hg : g ≠ K) :
    Calls Try.prog 43 #[.pointer (some ⟨K, 0, none⟩), .slice (some ⟨g, off, none⟩) m m] w fun e w' => RdE w K (decide (m = 20)) (cell0 z key va n vc fl (if numB ((x.drop 16).take 4) = 4294967295 then 0 else numB ((x.drop 16).take 4)) cas (numB (x.take 8)) (numB ((x.drop 8).take 8)) (decide (numB ((x.drop 16).take 4) ≠ 4294967295))) e w' := by
  by_cases h20 : m = 20
  · subst h20
    have p1 := hx.part3 0 8 (by decide)
    have p2 := hx.part3 8 8 (by decide)
    have p3 := hx.part3 16 4 (by decide)
    rw [List.drop_zero, Nat.add_zero] at p1
    have H1 := hide (pget_any p1 (by decide) (by decide))
    have c6 : w.cell? ⟨K, 6, none⟩ = some (.int .u64 del) := by unfold World.cell?; rw [hK]; rfl
    have f6 : w.frozen? ⟨K, 6, none⟩ = false := frozen_of_row _ _ _ _ _ hK
    obtain ⟨w1, hw1⟩ : ∃ w1, w.setCell ⟨K, 6, none⟩ (.int .u64 (numB (x.take 8))) = w1 := ⟨_, rfl⟩
    have h1 := setAtB 6 (.int .u64 (numB (x.take 8))) hK
    have g1 := setGrB w K 6 (.int .u64 (numB (x.take 8)))
    rw [hw1] at h1 g1
    have H2 := hide (pget_any (p2.far g1 hg) (by decide) (by decide))
    have c7 : w1.cell? ⟨K, 7, none⟩ = some (.int .u64 ini) := by unfold World.cell?; rw [h1]; rfl
    have f7 : w1.frozen? ⟨K, 7, none⟩ = false := frozen_of_row _ _ _ _ _ h1
    obtain ⟨w2, hw2⟩ : ∃ w2, w1.setCell ⟨K, 7, none⟩ (.int .u64 (numB ((x.drop 8).take 8))) = w2 := ⟨_, rfl⟩
    have h2 := setAtB 7 (.int .u64 (numB ((x.drop 8).take 8))) h1
    have g2 := gr_self g1 (setGrB w1 K 7 (.int .u64 (numB ((x.drop 8).take 8))))
    rw [hw2] at h2 g2
    have H3 := hide (pget_any (p3.far g2 hg) (by decide) (by decide))
    by_cases hN : numB ((x.drop 16).take 4) = 4294967295
    · rw [if_pos hN, show decide (numB ((x.drop 16).take 4) ≠ 4294967295) = false from decide_eq_false (fun h => h hN)]
      rw [hN] at H3
      replace g2 := hide g2
      replace h2 := hide h2
      generalize numB (x.take 8) = y1 at *
      generalize numB ((x.drop 8).take 8) = y2 at *
      clear hK hx hm p1 p2 p3 h1 g1 hN
      have N1 : Hid (w = w) := rfl
      go_enter Try.func43, Try.ntmps43
      go_wp2_with (first
        | (go_at_call 31; have t := N1; clear t; go_loud (refine H1.out.mono ?_; rintro e w9 ⟨rfl, rfl⟩; clear N1; have N2 : Hid (w9 = w9) := rfl))
        | (go_at_call 31; have t := N2; clear t; go_loud (refine H2.out.mono ?_; rintro e w9 ⟨rfl, rfl⟩; clear N2; have N3 : Hid (w9 = w9) := rfl))
        | (go_at_call 31; have t := N3; clear t; go_loud (refine H3.out.mono ?_; rintro e w9 ⟨rfl, rfl⟩; clear N3)))
      go_ret
      exact ⟨rfl, g2.out, fun _ => h2.out⟩
    · rw [if_neg hN, show decide (numB ((x.drop 16).take 4) ≠ 4294967295) = true from decide_eq_true hN]
      have zn : (numB ((x.drop 16).take 4) == 4294967295) = false := by rw [beq_eq_false_iff_ne]; exact hN
      have c8 : w2.cell? ⟨K, 8, none⟩ = some (.bool false) := by unfold World.cell?; rw [h2]; rfl
      have f8 : w2.frozen? ⟨K, 8, none⟩ = false := frozen_of_row _ _ _ _ _ h2
      obtain ⟨w3, hw3⟩ : ∃ w3, w2.setCell ⟨K, 8, none⟩ (.bool true) = w3 := ⟨_, rfl⟩
      have h3 := setAtB 8 (.bool true) h2
      have g3 := gr_self g2 (setGrB w2 K 8 (.bool true))
      rw [hw3] at h3 g3
      have H4 := hide (exp_any (z := z) (key := key) (va := va) (n := n) (vc := vc) (fl := fl) (exp := 0) (cas := cas) (del := numB (x.take 8)) (ini := numB ((x.drop 8).take 8)) (mk := true) h3 (p3.far g3 hg) (by decide))
      replace g3 := hide g3
      generalize numB (x.take 8) = y1 at *
      generalize numB ((x.drop 8).take 8) = y2 at *
      generalize numB ((x.drop 16).take 4) = y3 at *
      clear hK hx hm p1 p2 p3 h1 g1 hN h2 g2 h3
      have N1 : Hid (w = w) := rfl
      go_enter Try.func43, Try.ntmps43
      go_wp2_with (first
        | (go_at_call 31; have t := N1; clear t; go_loud (refine H1.out.mono ?_; rintro e w9 ⟨rfl, rfl⟩; clear N1; have N2 : Hid (w9 = w9) := rfl))
        | (go_at_call 31; have t := N2; clear t; go_loud (refine H2.out.mono ?_; rintro e w9 ⟨rfl, rfl⟩; clear N2; have N3 : Hid (w9 = w9) := rfl))
        | (go_at_call 31; have t := N3; clear t; go_loud (refine H3.out.mono ?_; rintro e w9 ⟨rfl, rfl⟩; clear N3))
        | (go_at_call 44; refine H4.out.mono ?_; rintro e w9 ⟨rfl, g9, h9⟩))
      go_ret
      exact ⟨rfl, gr_self g3.out g9, fun _ => h9 rfl⟩
  · rw [show decide (m = 20) = false from decide_eq_false h20]
    have n4 : ((m : Int) == 20) = false := by rw [beq_eq_false_iff_ne]; omega
    have n4b : ((m : Int) != 20) = true := by simpa using (show ¬ (m : Int) = 20 by omega)
    clear hK hx hm h20
    generalize cell0 z key va n vc fl (if numB ((x.drop 16).take 4) = 4294967295 then 0 else numB ((x.drop 16).take 4)) cas (numB (x.take 8)) (numB ((x.drop 8).take 8)) (decide (numB ((x.drop 16).take 4) ≠ 4294967295)) = cs
    go_enter Try.func43, Try.ntmps43
    go_wp2
    go_ret
    exact rdE_no
end
end Go.Proofs.Ytegaljpllcgaaaa
