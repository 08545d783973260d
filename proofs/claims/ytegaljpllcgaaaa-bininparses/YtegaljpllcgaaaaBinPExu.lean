/- Package binin's extras by kinds of command, and whether a key and a value fit. Conditions: the command lies in a block. -/
import Derived.Test.YtegaljpllcgaaaaBinPExt
namespace Go.Proofs.Ytegaljpllcgaaaa
set_option linter.unusedVariables false
open Go.RowKit Go.Shelf

section
variable {w : World} {K g off m : Nat} {x : List UInt8} {cas : Int} {key : ByteArray} {va : Option Addr} {n vc : Nat}
set_option maxRecDepth 100000 in
set_option maxHeartbeats 4000000 in
theorem ex_3 (hK : w.heap[K]? = some (.cells (cell0 3 key va n vc 0 0 cas 0 0 false) 39 (0, 0))) (hx : Bu w (some ⟨g, off, none⟩) m m x) (hm : m ≤ 100000) (hg : g ≠ K) :
    Calls Try.prog 35 #[.pointer (some ⟨K, 0, none⟩), .slice (some ⟨g, off, none⟩) m m] w fun e w' => RdE w K (decide (m = 8)) (cell0 3 key va n vc (numB (x.take 4)) (numB ((x.drop 4).take 4)) cas 0 0 false) e w' := by
  have c0 : w.cell? ⟨K, 0, none⟩ = some (.int .i64 3) := by unfold World.cell?; rw [hK]; rfl
  have H := hide (storing_any hK hx hm hg)
  clear hK hx hm hg
  go_enter Try.func35, Try.ntmps35
  go_wp2_with (go_at_call 42; refine H.out.mono ?_; rintro e w3 ⟨rfl, g3, h3⟩)
  go_ret
  exact ⟨rfl, g3, h3⟩
set_option maxRecDepth 100000 in
set_option maxHeartbeats 4000000 in
theorem ex_4 (hK : w.heap[K]? = some (.cells (cell0 4 key va n vc 0 0 cas 0 0 false) 39 (0, 0))) (hx : Bu w (some ⟨g, off, none⟩) m m x) (hm : m ≤ 100000) (hg : g ≠ K) :
    Calls Try.prog 35 #[.pointer (some ⟨K, 0, none⟩), .slice (some ⟨g, off, none⟩) m m] w fun e w' => RdE w K (decide (m = 8)) (cell0 4 key va n vc (numB (x.take 4)) (numB ((x.drop 4).take 4)) cas 0 0 false) e w' := by
  have c0 : w.cell? ⟨K, 0, none⟩ = some (.int .i64 4) := by unfold World.cell?; rw [hK]; rfl
  have H := hide (storing_any hK hx hm hg)
  clear hK hx hm hg
  go_enter Try.func35, Try.ntmps35
  go_wp2_with (go_at_call 42; refine H.out.mono ?_; rintro e w3 ⟨rfl, g3, h3⟩)
  go_ret
  exact ⟨rfl, g3, h3⟩
set_option maxRecDepth 100000 in
set_option maxHeartbeats 4000000 in
theorem ex_5 (hK : w.heap[K]? = some (.cells (cell0 5 key va n vc 0 0 cas 0 0 false) 39 (0, 0))) (hx : Bu w (some ⟨g, off, none⟩) m m x) (hm : m ≤ 100000) (hg : g ≠ K) :
    Calls Try.prog 35 #[.pointer (some ⟨K, 0, none⟩), .slice (some ⟨g, off, none⟩) m m] w fun e w' => RdE w K (decide (m = 8)) (cell0 5 key va n vc (numB (x.take 4)) (numB ((x.drop 4).take 4)) cas 0 0 false) e w' := by
  have c0 : w.cell? ⟨K, 0, none⟩ = some (.int .i64 5) := by unfold World.cell?; rw [hK]; rfl
  have H := hide (storing_any hK hx hm hg)
  clear hK hx hm hg
  go_enter Try.func35, Try.ntmps35
  go_wp2_with (go_at_call 42; refine H.out.mono ?_; rintro e w3 ⟨rfl, g3, h3⟩)
  go_ret
  exact ⟨rfl, g3, h3⟩
set_option maxRecDepth 100000 in
set_option maxHeartbeats 4000000 in
theorem ex_10 (hK : w.heap[K]? = some (.cells (cell0 10 key va n vc 0 0 cas 0 0 false) 39 (0, 0))) (hx : Bu w (some ⟨g, off, none⟩) m m x) (hm : m ≤ 100000) (hg : g ≠ K) :
    Calls Try.prog 35 #[.pointer (some ⟨K, 0, none⟩), .slice (some ⟨g, off, none⟩) m m] w fun e w' => RdE w K (decide (m = 20)) (cell0 10 key va n vc 0 (if numB ((x.drop 16).take 4) = 4294967295 then 0 else numB ((x.drop 16).take 4)) cas (numB (x.take 8)) (numB ((x.drop 8).take 8)) (decide (numB ((x.drop 16).take 4) ≠ 4294967295))) e w' := by
  have c0 : w.cell? ⟨K, 0, none⟩ = some (.int .i64 10) := by unfold World.cell?; rw [hK]; rfl
  have H := hide (counting_any hK hx hm hg)
  generalize cell0 10 key va n vc 0 (if numB ((x.drop 16).take 4) = 4294967295 then 0 else numB ((x.drop 16).take 4)) cas (numB (x.take 8)) (numB ((x.drop 8).take 8)) (decide (numB ((x.drop 16).take 4) ≠ 4294967295)) = cs at H ⊢
  clear hK hx hm hg
  go_enter Try.func35, Try.ntmps35
  go_wp2_with (go_at_call 43; refine H.out.mono ?_; rintro e w3 ⟨rfl, g3, h3⟩)
  go_ret
  exact ⟨rfl, g3, h3⟩
set_option maxRecDepth 100000 in
set_option maxHeartbeats 4000000 in
theorem ex_11 (hK : w.heap[K]? = some (.cells (cell0 11 key va n vc 0 0 cas 0 0 false) 39 (0, 0))) (hx : Bu w (some ⟨g, off, none⟩) m m x) (hm : m ≤ 100000) (hg : g ≠ K) :
    Calls Try.prog 35 #[.pointer (some ⟨K, 0, none⟩), .slice (some ⟨g, off, none⟩) m m] w fun e w' => RdE w K (decide (m = 20)) (cell0 11 key va n vc 0 (if numB ((x.drop 16).take 4) = 4294967295 then 0 else numB ((x.drop 16).take 4)) cas (numB (x.take 8)) (numB ((x.drop 8).take 8)) (decide (numB ((x.drop 16).take 4) ≠ 4294967295))) e w' := by
  have c0 : w.cell? ⟨K, 0, none⟩ = some (.int .i64 11) := by unfold World.cell?; rw [hK]; rfl
  have H := hide (counting_any hK hx hm hg)
  generalize cell0 11 key va n vc 0 (if numB ((x.drop 16).take 4) = 4294967295 then 0 else numB ((x.drop 16).take 4)) cas (numB (x.take 8)) (numB ((x.drop 8).take 8)) (decide (numB ((x.drop 16).take 4) ≠ 4294967295)) = cs at H ⊢
  clear hK hx hm hg
  go_enter Try.func35, Try.ntmps35
  go_wp2_with (go_at_call 43; refine H.out.mono ?_; rintro e w3 ⟨rfl, g3, h3⟩)
  go_ret
  exact ⟨rfl, g3, h3⟩
set_option maxRecDepth 100000 in
set_option maxHeartbeats 4000000 in
theorem ex_2 (hK : w.heap[K]? = some (.cells (cell0 2 key va n vc 0 0 cas 0 0 false) 39 (0, 0))) (hx : Bu w (some ⟨g, off, none⟩) m m x) (hm : m ≤ 100000) (hg : g ≠ K) :
    Calls Try.prog 35 #[.pointer (some ⟨K, 0, none⟩), .slice (some ⟨g, off, none⟩) m m] w fun e w' => RdE w K (decide (m = 4)) (cell0 2 key va n vc 0 (numB x) cas 0 0 false) e w' := by
  have c0 : w.cell? ⟨K, 0, none⟩ = some (.int .i64 2) := by unfold World.cell?; rw [hK]; rfl
  have H := hide (exp_any hK hx hm)
  clear hK hx hm hg
  go_enter Try.func35, Try.ntmps35
  go_wp2_with (go_at_call 44; refine H.out.mono ?_; rintro e w3 ⟨rfl, g3, h3⟩)
  go_ret
  exact ⟨rfl, g3, h3⟩
set_option maxRecDepth 100000 in
set_option maxHeartbeats 4000000 in
theorem ex_1 (hK : w.heap[K]? = some (.cells (cell0 1 key va n vc 0 0 cas 0 0 false) 39 (0, 0))) (hx : Bu w (some ⟨g, off, none⟩) m m x) (hm : m ≤ 100000) (hg : g ≠ K) :
    Calls Try.prog 35 #[.pointer (some ⟨K, 0, none⟩), .slice (some ⟨g, off, none⟩) m m] w fun e w' => RdE w K (decide (m = 4)) (cell0 1 key va n vc 0 (numB x) cas 0 0 false) e w' := by
  have c0 : w.cell? ⟨K, 0, none⟩ = some (.int .i64 1) := by unfold World.cell?; rw [hK]; rfl
  have H := hide (exp_any hK hx hm)
  clear hK hx hm hg
  go_enter Try.func35, Try.ntmps35
  go_wp2_with (go_at_call 44; refine H.out.mono ?_; rintro e w3 ⟨rfl, g3, h3⟩)
  go_ret
  exact ⟨rfl, g3, h3⟩
set_option maxRecDepth 100000 in
set_option maxHeartbeats 4000000 in
theorem ex_0 (hK : w.heap[K]? = some (.cells (cell0 0 key va n vc 0 0 cas 0 0 false) 39 (0, 0))) (hx : Bu w (some ⟨g, off, none⟩) m m x) (hm : m ≤ 100000) (hg : g ≠ K) :
    Calls Try.prog 35 #[.pointer (some ⟨K, 0, none⟩), .slice (some ⟨g, off, none⟩) m m] w fun e w' => RdE w K (decide (m = 0)) (cell0 0 key va n vc 0 0 cas 0 0 false) e w' := by
  have c0 : w.cell? ⟨K, 0, none⟩ = some (.int .i64 0) := by unfold World.cell?; rw [hK]; rfl
  by_cases h0 : m = 0
  · subst h0
    have h5 := hide hK
    clear hK hx hm hg
    go_enter Try.func35, Try.ntmps35
    go_wp2
    go_ret
    exact ⟨rfl, ⟨rfl, rfl, rfl, Nat.le_refl _, fun _ _ _ => rfl⟩, fun _ => h5.out⟩
  · rw [show decide (m = 0) = false from decide_eq_false h0]
    have n0 : ((m : Int) == 0) = false := by rw [beq_eq_false_iff_ne]; omega
    clear hK hx hm hg h0
    go_enter Try.func35, Try.ntmps35
    go_wp2
    go_ret
    exact rdE_no
set_option maxRecDepth 100000 in
set_option maxHeartbeats 4000000 in
theorem ex_8 (hK : w.heap[K]? = some (.cells (cell0 8 key va n vc 0 0 cas 0 0 false) 39 (0, 0))) (hx : Bu w (some ⟨g, off, none⟩) m m x) (hm : m ≤ 100000) (hg : g ≠ K) :
    Calls Try.prog 35 #[.pointer (some ⟨K, 0, none⟩), .slice (some ⟨g, off, none⟩) m m] w fun e w' => RdE w K (decide (m = 0)) (cell0 8 key va n vc 0 0 cas 0 0 false) e w' := by
  have c0 : w.cell? ⟨K, 0, none⟩ = some (.int .i64 8) := by unfold World.cell?; rw [hK]; rfl
  by_cases h0 : m = 0
  · subst h0
    have h5 := hide hK
    clear hK hx hm hg
    go_enter Try.func35, Try.ntmps35
    go_wp2
    go_ret
    exact ⟨rfl, ⟨rfl, rfl, rfl, Nat.le_refl _, fun _ _ _ => rfl⟩, fun _ => h5.out⟩
  · rw [show decide (m = 0) = false from decide_eq_false h0]
    have n0 : ((m : Int) == 0) = false := by rw [beq_eq_false_iff_ne]; omega
    clear hK hx hm hg h0
    go_enter Try.func35, Try.ntmps35
    go_wp2
    go_ret
    exact rdE_no
set_option maxRecDepth 100000 in
set_option maxHeartbeats 4000000 in
theorem ex_6 (hK : w.heap[K]? = some (.cells (cell0 6 key va n vc 0 0 cas 0 0 false) 39 (0, 0))) (hx : Bu w (some ⟨g, off, none⟩) m m x) (hm : m ≤ 100000) (hg : g ≠ K) :
    Calls Try.prog 35 #[.pointer (some ⟨K, 0, none⟩), .slice (some ⟨g, off, none⟩) m m] w fun e w' => RdE w K (decide (m = 0)) (cell0 6 key va n vc 0 0 cas 0 0 false) e w' := by
  have c0 : w.cell? ⟨K, 0, none⟩ = some (.int .i64 6) := by unfold World.cell?; rw [hK]; rfl
  by_cases h0 : m = 0
  · subst h0
    have h5 := hide hK
    clear hK hx hm hg
    go_enter Try.func35, Try.ntmps35
    go_wp2
    go_ret
    exact ⟨rfl, ⟨rfl, rfl, rfl, Nat.le_refl _, fun _ _ _ => rfl⟩, fun _ => h5.out⟩
  · rw [show decide (m = 0) = false from decide_eq_false h0]
    have n0 : ((m : Int) == 0) = false := by rw [beq_eq_false_iff_ne]; omega
    clear hK hx hm hg h0
    go_enter Try.func35, Try.ntmps35
    go_wp2
    go_ret
    exact rdE_no
set_option maxRecDepth 100000 in
set_option maxHeartbeats 4000000 in
theorem ex_7 (hK : w.heap[K]? = some (.cells (cell0 7 key va n vc 0 0 cas 0 0 false) 39 (0, 0))) (hx : Bu w (some ⟨g, off, none⟩) m m x) (hm : m ≤ 100000) (hg : g ≠ K) :
    Calls Try.prog 35 #[.pointer (some ⟨K, 0, none⟩), .slice (some ⟨g, off, none⟩) m m] w fun e w' => RdE w K (decide (m = 0)) (cell0 7 key va n vc 0 0 cas 0 0 false) e w' := by
  have c0 : w.cell? ⟨K, 0, none⟩ = some (.int .i64 7) := by unfold World.cell?; rw [hK]; rfl
  by_cases h0 : m = 0
  · subst h0
    have h5 := hide hK
    clear hK hx hm hg
    go_enter Try.func35, Try.ntmps35
    go_wp2
    go_ret
    exact ⟨rfl, ⟨rfl, rfl, rfl, Nat.le_refl _, fun _ _ _ => rfl⟩, fun _ => h5.out⟩
  · rw [show decide (m = 0) = false from decide_eq_false h0]
    have n0 : ((m : Int) == 0) = false := by rw [beq_eq_false_iff_ne]; omega
    clear hK hx hm hg h0
    go_enter Try.func35, Try.ntmps35
    go_wp2
    go_ret
    exact rdE_no
set_option maxRecDepth 100000 in
set_option maxHeartbeats 4000000 in
theorem ex_14 (hK : w.heap[K]? = some (.cells (cell0 14 key va n vc 0 0 cas 0 0 false) 39 (0, 0))) (hx : Bu w (some ⟨g, off, none⟩) m m x) (hm : m ≤ 100000) (hg : g ≠ K) :
    Calls Try.prog 35 #[.pointer (some ⟨K, 0, none⟩), .slice (some ⟨g, off, none⟩) m m] w fun e w' => RdE w K (decide (m = 0)) (cell0 14 key va n vc 0 0 cas 0 0 false) e w' := by
  have c0 : w.cell? ⟨K, 0, none⟩ = some (.int .i64 14) := by unfold World.cell?; rw [hK]; rfl
  by_cases h0 : m = 0
  · subst h0
    have h5 := hide hK
    clear hK hx hm hg
    go_enter Try.func35, Try.ntmps35
    go_wp2
    go_ret
    exact ⟨rfl, ⟨rfl, rfl, rfl, Nat.le_refl _, fun _ _ _ => rfl⟩, fun _ => h5.out⟩
  · rw [show decide (m = 0) = false from decide_eq_false h0]
    have n0 : ((m : Int) == 0) = false := by rw [beq_eq_false_iff_ne]; omega
    clear hK hx hm hg h0
    go_enter Try.func35, Try.ntmps35
    go_wp2
    go_ret
    exact rdE_no
set_option maxRecDepth 100000 in
set_option maxHeartbeats 4000000 in
theorem ex_15 (hK : w.heap[K]? = some (.cells (cell0 15 key va n vc 0 0 cas 0 0 false) 39 (0, 0))) (hx : Bu w (some ⟨g, off, none⟩) m m x) (hm : m ≤ 100000) (hg : g ≠ K) :
    Calls Try.prog 35 #[.pointer (some ⟨K, 0, none⟩), .slice (some ⟨g, off, none⟩) m m] w fun e w' => RdE w K (decide (m = 0)) (cell0 15 key va n vc 0 0 cas 0 0 false) e w' := by
  have c0 : w.cell? ⟨K, 0, none⟩ = some (.int .i64 15) := by unfold World.cell?; rw [hK]; rfl
  by_cases h0 : m = 0
  · subst h0
    have h5 := hide hK
    clear hK hx hm hg
    go_enter Try.func35, Try.ntmps35
    go_wp2
    go_ret
    exact ⟨rfl, ⟨rfl, rfl, rfl, Nat.le_refl _, fun _ _ _ => rfl⟩, fun _ => h5.out⟩
  · rw [show decide (m = 0) = false from decide_eq_false h0]
    have n0 : ((m : Int) == 0) = false := by rw [beq_eq_false_iff_ne]; omega
    clear hK hx hm hg h0
    go_enter Try.func35, Try.ntmps35
    go_wp2
    go_ret
    exact rdE_no
set_option maxRecDepth 100000 in
set_option maxHeartbeats 4000000 in
theorem ex_16 (hK : w.heap[K]? = some (.cells (cell0 16 key va n vc 0 0 cas 0 0 false) 39 (0, 0))) (hx : Bu w (some ⟨g, off, none⟩) m m x) (hm : m ≤ 100000) (hg : g ≠ K) :
    Calls Try.prog 35 #[.pointer (some ⟨K, 0, none⟩), .slice (some ⟨g, off, none⟩) m m] w fun e w' => RdE w K (decide (m = 0)) (cell0 16 key va n vc 0 0 cas 0 0 false) e w' := by
  have c0 : w.cell? ⟨K, 0, none⟩ = some (.int .i64 16) := by unfold World.cell?; rw [hK]; rfl
  by_cases h0 : m = 0
  · subst h0
    have h5 := hide hK
    clear hK hx hm hg
    go_enter Try.func35, Try.ntmps35
    go_wp2
    go_ret
    exact ⟨rfl, ⟨rfl, rfl, rfl, Nat.le_refl _, fun _ _ _ => rfl⟩, fun _ => h5.out⟩
  · rw [show decide (m = 0) = false from decide_eq_false h0]
    have n0 : ((m : Int) == 0) = false := by rw [beq_eq_false_iff_ne]; omega
    clear hK hx hm hg h0
    go_enter Try.func35, Try.ntmps35
    go_wp2
    go_ret
    exact rdE_no
set_option maxRecDepth 100000 in
set_option maxHeartbeats 4000000 in
theorem ex_13 (hK : w.heap[K]? = some (.cells (cell0 13 key va n vc 0 0 cas 0 0 false) 39 (0, 0))) (hx : Bu w (some ⟨g, off, none⟩) m m x) (hm : m ≤ 100000) (hg : g ≠ K) :
    Calls Try.prog 35 #[.pointer (some ⟨K, 0, none⟩), .slice (some ⟨g, off, none⟩) m m] w fun e w' => RdE w K (decide (m = 0) || decide (m = 4)) (cell0 13 key va n vc 0 (if m = 4 then numB x else 0) cas 0 0 false) e w' := by
  have c0 : w.cell? ⟨K, 0, none⟩ = some (.int .i64 13) := by unfold World.cell?; rw [hK]; rfl
  by_cases h0 : m = 0
  · subst h0
    have h5 := hide hK
    clear hK hx hm hg
    go_enter Try.func35, Try.ntmps35
    go_wp2
    go_ret
    exact ⟨rfl, ⟨rfl, rfl, rfl, Nat.le_refl _, fun _ _ _ => rfl⟩, fun _ => h5.out⟩
  · rw [show decide (m = 0) = false from decide_eq_false h0, Bool.false_or]
    have n0 : ((m : Int) == 0) = false := by rw [beq_eq_false_iff_ne]; omega
    have H := hide (exp_any hK hx hm)
    generalize hcs : cell0 13 key va n vc 0 (if m = 4 then numB x else 0) cas 0 0 false = cs
    replace hcs := hide hcs
    clear hK hx hm hg h0
    go_enter Try.func35, Try.ntmps35
    go_wp2_with (go_at_call 44; refine H.out.mono ?_; rintro e w3 ⟨rfl, g3, h3⟩)
    go_ret
    refine ⟨rfl, g3, fun h => ?_⟩
    rw [← hcs.out, if_pos (of_decide_eq_true h)]
    exact h3 h
set_option maxRecDepth 100000 in
set_option maxHeartbeats 4000000 in
theorem kf_16 {z fl exp cas del ini : Int} {mk : Bool} (w : World) :
    Calls Try.prog 36 #[.agg (cell0 16 key va n vc fl exp cas del ini mk)] w fun e w' => e = .returned (.bool (key.data.toList.isEmpty)) ∧ w.grownBy w' none := by
  unfold cell0
  obtain ⟨⟨l⟩⟩ := key
  cases l with
  | nil =>
    go_enter Try.func36, Try.ntmps36
    go_wp2
    go_ret
    exact ⟨rfl, World.grownBy_alloc _ _ none⟩
  | cons c t =>
    go_enter Try.func36, Try.ntmps36
    go_wp2
    go_ret
    exact ⟨rfl, World.grownBy_alloc _ _ none⟩
set_option maxRecDepth 100000 in
set_option maxHeartbeats 4000000 in
theorem kf_13 {z fl exp cas del ini : Int} {mk : Bool} (w : World) :
    Calls Try.prog 36 #[.agg (cell0 13 key va n vc fl exp cas del ini mk)] w fun e w' => e = .returned (.bool (key.data.toList.isEmpty)) ∧ w.grownBy w' none := by
  unfold cell0
  obtain ⟨⟨l⟩⟩ := key
  cases l with
  | nil =>
    go_enter Try.func36, Try.ntmps36
    go_wp2
    go_ret
    exact ⟨rfl, World.grownBy_alloc _ _ none⟩
  | cons c t =>
    go_enter Try.func36, Try.ntmps36
    go_wp2
    go_ret
    exact ⟨rfl, World.grownBy_alloc _ _ none⟩
set_option maxRecDepth 100000 in
set_option maxHeartbeats 4000000 in
theorem kf_14 {z fl exp cas del ini : Int} {mk : Bool} (w : World) :
    Calls Try.prog 36 #[.agg (cell0 14 key va n vc fl exp cas del ini mk)] w fun e w' => e = .returned (.bool (key.data.toList.isEmpty)) ∧ w.grownBy w' none := by
  unfold cell0
  obtain ⟨⟨l⟩⟩ := key
  cases l with
  | nil =>
    go_enter Try.func36, Try.ntmps36
    go_wp2
    go_ret
    exact ⟨rfl, World.grownBy_alloc _ _ none⟩
  | cons c t =>
    go_enter Try.func36, Try.ntmps36
    go_wp2
    go_ret
    exact ⟨rfl, World.grownBy_alloc _ _ none⟩
set_option maxRecDepth 100000 in
set_option maxHeartbeats 4000000 in
theorem kf_15 {z fl exp cas del ini : Int} {mk : Bool} (w : World) :
    Calls Try.prog 36 #[.agg (cell0 15 key va n vc fl exp cas del ini mk)] w fun e w' => e = .returned (.bool (key.data.toList.isEmpty)) ∧ w.grownBy w' none := by
  unfold cell0
  obtain ⟨⟨l⟩⟩ := key
  cases l with
  | nil =>
    go_enter Try.func36, Try.ntmps36
    go_wp2
    go_ret
    exact ⟨rfl, World.grownBy_alloc _ _ none⟩
  | cons c t =>
    go_enter Try.func36, Try.ntmps36
    go_wp2
    go_ret
    exact ⟨rfl, World.grownBy_alloc _ _ none⟩
set_option maxRecDepth 100000 in
set_option maxHeartbeats 4000000 in
theorem kf_x {z fl exp cas del ini : Int} {mk : Bool} (hz : z ≠ 16 ∧ z ≠ 13 ∧ z ≠ 14 ∧ z ≠ 15) (w : World) :
    Calls Try.prog 36 #[.agg (cell0 z key va n vc fl exp cas del ini mk)] w fun e w' => e = .returned (.bool (keyedN key.data.toList)) ∧ w.grownBy w' none := by
  obtain ⟨h16, h13, h14, h15⟩ := hz
  have z16 : (z == 16) = false := by rw [beq_eq_false_iff_ne]; exact h16
  have z13 : (z == 13) = false := by rw [beq_eq_false_iff_ne]; exact h13
  have z14 : (z == 14) = false := by rw [beq_eq_false_iff_ne]; exact h14
  have z15 : (z == 15) = false := by rw [beq_eq_false_iff_ne]; exact h15
  clear h16 h13 h14 h15
  unfold cell0
  go_enter Try.func36, Try.ntmps36
  go_wp2_with (go_at_call 45; refine (keyed_any key _).mono ?_; rintro e w3 ⟨rfl, rfl⟩)
  go_ret
  exact ⟨by first | rfl | (simp; done) | (congr 2), World.grownBy_alloc _ _ none⟩
set_option maxRecDepth 100000 in
set_option maxHeartbeats 4000000 in
theorem vf_3 {z fl exp cas del ini : Int} {mk : Bool} (w : World) :
    Calls Try.prog 37 #[.agg (cell0 3 key va n vc fl exp cas del ini mk)] w fun e w' => e = .returned (.bool (true)) ∧ w.grownBy w' none := by
  unfold cell0
  go_enter Try.func37, Try.ntmps37
  go_wp2
  go_ret
  exact ⟨by first | rfl | (simp; done) | (congr 2), World.grownBy_alloc _ _ none⟩
set_option maxRecDepth 100000 in
set_option maxHeartbeats 4000000 in
theorem vf_4 {z fl exp cas del ini : Int} {mk : Bool} (w : World) :
    Calls Try.prog 37 #[.agg (cell0 4 key va n vc fl exp cas del ini mk)] w fun e w' => e = .returned (.bool (true)) ∧ w.grownBy w' none := by
  unfold cell0
  go_enter Try.func37, Try.ntmps37
  go_wp2
  go_ret
  exact ⟨by first | rfl | (simp; done) | (congr 2), World.grownBy_alloc _ _ none⟩
set_option maxRecDepth 100000 in
set_option maxHeartbeats 4000000 in
theorem vf_5 {z fl exp cas del ini : Int} {mk : Bool} (w : World) :
    Calls Try.prog 37 #[.agg (cell0 5 key va n vc fl exp cas del ini mk)] w fun e w' => e = .returned (.bool (true)) ∧ w.grownBy w' none := by
  unfold cell0
  go_enter Try.func37, Try.ntmps37
  go_wp2
  go_ret
  exact ⟨by first | rfl | (simp; done) | (congr 2), World.grownBy_alloc _ _ none⟩
set_option maxRecDepth 100000 in
set_option maxHeartbeats 4000000 in
theorem vf_6 {z fl exp cas del ini : Int} {mk : Bool} (w : World) :
    Calls Try.prog 37 #[.agg (cell0 6 key va n vc fl exp cas del ini mk)] w fun e w' => e = .returned (.bool (true)) ∧ w.grownBy w' none := by
  unfold cell0
  go_enter Try.func37, Try.ntmps37
  go_wp2
  go_ret
  exact ⟨by first | rfl | (simp; done) | (congr 2), World.grownBy_alloc _ _ none⟩
set_option maxRecDepth 100000 in
set_option maxHeartbeats 4000000 in
theorem vf_7 {z fl exp cas del ini : Int} {mk : Bool} (w : World) :
    Calls Try.prog 37 #[.agg (cell0 7 key va n vc fl exp cas del ini mk)] w fun e w' => e = .returned (.bool (true)) ∧ w.grownBy w' none := by
  unfold cell0
  go_enter Try.func37, Try.ntmps37
  go_wp2
  go_ret
  exact ⟨by first | rfl | (simp; done) | (congr 2), World.grownBy_alloc _ _ none⟩
set_option maxRecDepth 100000 in
set_option maxHeartbeats 4000000 in
theorem vf_x {z fl exp cas del ini : Int} {mk : Bool} (hz : z ≠ 3 ∧ z ≠ 4 ∧ z ≠ 5 ∧ z ≠ 6 ∧ z ≠ 7) (w : World) :
    Calls Try.prog 37 #[.agg (cell0 z key va n vc fl exp cas del ini mk)] w fun e w' => e = .returned (.bool ((n : Int) == 0)) ∧ w.grownBy w' none := by
  obtain ⟨h3, h4, h5, h6, h7⟩ := hz
  have z3 : (z == 3) = false := by rw [beq_eq_false_iff_ne]; exact h3
  have z4 : (z == 4) = false := by rw [beq_eq_false_iff_ne]; exact h4
  have z5 : (z == 5) = false := by rw [beq_eq_false_iff_ne]; exact h5
  have z6 : (z == 6) = false := by rw [beq_eq_false_iff_ne]; exact h6
  have z7 : (z == 7) = false := by rw [beq_eq_false_iff_ne]; exact h7
  clear h3 h4 h5 h6 h7
  unfold cell0
  go_enter Try.func37, Try.ntmps37
  go_wp2
  go_ret
  exact ⟨by first | rfl | (simp; done) | (congr 2), World.grownBy_alloc _ _ none⟩
end
end Go.Proofs.Ytegaljpllcgaaaa
