/- The document's own command of a row of the table, with its extras. Conditions: the extras lie in memory, as many as the row says. -/
import Derived.Test.YtegaljpllcgaaaaBinGet
import Derived.Test.YtegaljpllcgaaaaBinOf
import Derived.Test.YtegaljpllcgaaaaBinV
namespace Go.Proofs.Ytegaljpllcgaaaa
set_option linter.unusedVariables false
open Go.RowKit

/-- What is answered: a command without a value. -/
def CmdE (c : Cv) (w : World) (e : Ending) (w' : World) : Prop := e = .returned (.agg (cmC c none 0)) ∧ w.grownBy w' none
theorem mid_new (w : World) (o p r : Obj) : (((w.alloc o).alloc p).alloc r).heap[w.heap.size + 1]? = some p := by
  have h1 := World.alloc_heap_new (w.alloc o) p
  rw [World.size_alloc] at h1
  have g := World.grownBy_alloc ((w.alloc o).alloc p) r none
  exact (g.block (w.heap.size + 1) (by rw [World.size_alloc, World.size_alloc]; omega) (by simp)).trans h1
section
variable {w : World} {r : R5} {g off cap : Nat} {x : List UInt8}
set_option maxRecDepth 100000 in
set_option maxHeartbeats 4000000 in
theorem cmd_8 (h8 : r.ext = 8) (hx : Bu w (some ⟨g, off, none⟩) 8 cap x) : Calls Try.prog 25 #[.agg (r5C r), .slice (some ⟨g, off, none⟩) 8 cap] w fun e w' => CmdE (cmdB r x) w e w' := by
  have e0 : cmdB r x = ⟨r.op, ⟨#[]⟩, [], numB (x.take 4), numB ((x.drop 4).take 4), 0, 0, 0, false, false⟩ := by unfold cmdB; rw [if_pos h8]
  rw [e0]
  have hc := hx.c
  have p1 := hx.part 0 4 (by omega)
  have p2 := hx.part 4 4 (by omega)
  rw [List.drop_zero, Nat.add_zero, Nat.sub_zero] at p1
  have f1 := u32_id (numB_bd (x.take 4)).1 (numB_four p1.n)
  have f2 := i64_id (numB_bd ((x.drop 4).take 4)).1 (numB_four p2.n)
  have c4 : (4 : Int) ≤ (cap : Int) := by omega
  have c8 : (8 : Int) ≤ (cap : Int) := by omega
  have n4 : ¬ cap = 4 := by omega
  have H1 := hide (fun (W : World) (hg : w.grownBy W none) => bget_any (p1.on (below_gr hg)) (by decide))
  have H2 := hide (fun (W : World) (hg : w.grownBy W none) => bget_any (p2.on (below_gr hg)) (by decide))
  generalize numB (x.take 4) = y1 at *
  generalize numB ((x.drop 4).take 4) = y2 at *
  have z8 : (r.ext == 8) = true := by rw [h8]; rfl
  have z20 : (r.ext == 20) = false := by rw [h8]; rfl
  simp only [r5C]
  have N1 : Hid (w = w) := rfl
  clear e0 p1 p2 hx h8 hc
  go_enter Try.func25, Try.ntmps25
  go_wp2_with (first
    | (go_at_call 22; have t := N1; clear t; refine (H1.out _ (gr_trans (World.grownBy_alloc _ _ none) (gr_trans (World.grownBy_alloc _ _ none) (World.grownBy_alloc _ _ none)))).mono ?_; rintro e w2 ⟨rfl, rfl⟩; clear N1; have N2 : Hid (w = w) := rfl)
    | (go_at_call 22; have t := N2; clear t; refine (H2.out _ (gr_trans (World.grownBy_alloc _ _ none) (gr_trans (World.grownBy_alloc _ _ none) (World.grownBy_alloc _ _ none)))).mono ?_; rintro e w2 ⟨rfl, rfl⟩; clear N2))
  refine bodyPost_ret (results_cell_row rfl _ _ (w.heap.size + 1) 39 (cmC ⟨r.op, ⟨#[]⟩, [], y1, y2, 0, 0, 0, false, false⟩ none 0) (0, 0) _ rfl ?_ Try.underlying39 rfl (cmd_size _ _ _)) rfl ?_
  · exact mid_new _ _ _ _
  · exact ⟨rfl, gr_trans (World.grownBy_alloc _ _ none) (gr_trans (World.grownBy_alloc _ _ none) (World.grownBy_alloc _ _ none))⟩
set_option maxRecDepth 100000 in
set_option maxHeartbeats 4000000 in
theorem cmd_20n (h20 : r.ext = 20) (hx : Bu w (some ⟨g, off, none⟩) 20 cap x) (hm : numB ((x.drop 16).take 4) = 4294967295) : Calls Try.prog 25 #[.agg (r5C r), .slice (some ⟨g, off, none⟩) 20 cap] w fun e w' => CmdE (cmdB r x) w e w' := by
  have e0 : cmdB r x = ⟨r.op, ⟨#[]⟩, [], 0, 0, 0, numB (x.take 8), numB ((x.drop 8).take 8), false, false⟩ := by unfold cmdB; rw [if_neg (by omega), if_pos h20, if_pos hm]; simp [hm]
  rw [e0]
  have hc := hx.c
  have p1 := hx.part 0 8 (by omega)
  have p2 := hx.part 8 8 (by omega)
  have p3 := hx.part 16 4 (by omega)
  rw [List.drop_zero, Nat.add_zero, Nat.sub_zero] at p1
  have f3 := i64_id (numB_bd ((x.drop 16).take 4)).1 (numB_four p3.n)
  have c4 : (8 : Int) ≤ (cap : Int) := by omega
  have c8 : (16 : Int) ≤ (cap : Int) := by omega
  have c20 : (20 : Int) ≤ (cap : Int) := by omega
  have n8 : ¬ cap = 8 := by omega
  have n16 : ¬ cap = 16 := by omega
  have H1 := hide (fun (W : World) (hg : w.grownBy W none) => bget_any (p1.on (below_gr hg)) (by decide))
  have H2 := hide (fun (W : World) (hg : w.grownBy W none) => bget_any (p2.on (below_gr hg)) (by decide))
  have H3 := hide (fun (W : World) (hg : w.grownBy W none) => bget_any (p3.on (below_gr hg)) (by decide))
  generalize numB (x.take 8) = y1 at *
  generalize numB ((x.drop 8).take 8) = y2 at *
  generalize numB ((x.drop 16).take 4) = y3 at *
  have z8 : (r.ext == 8) = false := by rw [h20]; rfl
  have z20 : (r.ext == 20) = true := by rw [h20]; rfl
  have zn : (y3 != 4294967295) = false := by rw [hm]; rfl
  have zm : (y3 == 4294967295) = true := by rw [hm]; rfl
  simp only [r5C]
  have N1 : Hid (w = w) := rfl
  clear e0 p1 p2 p3 hx h20 hc hm
  go_enter Try.func25, Try.ntmps25
  go_wp2_with (first
    | (go_at_call 22; have t := N1; clear t; refine (H1.out _ (gr_trans (World.grownBy_alloc _ _ none) (gr_trans (World.grownBy_alloc _ _ none) (World.grownBy_alloc _ _ none)))).mono ?_; rintro e w2 ⟨rfl, rfl⟩; clear N1; have N2 : Hid (w = w) := rfl)
    | (go_at_call 22; have t := N2; clear t; refine (H2.out _ (gr_trans (World.grownBy_alloc _ _ none) (gr_trans (World.grownBy_alloc _ _ none) (World.grownBy_alloc _ _ none)))).mono ?_; rintro e w2 ⟨rfl, rfl⟩; clear N2; have N3 : Hid (w = w) := rfl)
    | (go_at_call 22; have t := N3; clear t; refine (H3.out _ (gr_trans (World.grownBy_alloc _ _ none) (gr_trans (World.grownBy_alloc _ _ none) (World.grownBy_alloc _ _ none)))).mono ?_; rintro e w2 ⟨rfl, rfl⟩; clear N3))
  refine bodyPost_ret (results_cell_row rfl _ _ (w.heap.size + 1) 39 (cmC ⟨r.op, ⟨#[]⟩, [], 0, 0, 0, y1, y2, false, false⟩ none 0) (0, 0) _ rfl ?_ Try.underlying39 rfl (cmd_size _ _ _)) rfl ?_
  · exact mid_new _ _ _ _
  · exact ⟨rfl, gr_trans (World.grownBy_alloc _ _ none) (gr_trans (World.grownBy_alloc _ _ none) (World.grownBy_alloc _ _ none))⟩
set_option maxRecDepth 100000 in
set_option maxHeartbeats 4000000 in
theorem cmd_20y (h20 : r.ext = 20) (hx : Bu w (some ⟨g, off, none⟩) 20 cap x) (hm : ¬ numB ((x.drop 16).take 4) = 4294967295) : Calls Try.prog 25 #[.agg (r5C r), .slice (some ⟨g, off, none⟩) 20 cap] w fun e w' => CmdE (cmdB r x) w e w' := by
  have e0 : cmdB r x = ⟨r.op, ⟨#[]⟩, [], 0, numB ((x.drop 16).take 4), 0, numB (x.take 8), numB ((x.drop 8).take 8), true, false⟩ := by unfold cmdB; rw [if_neg (by omega), if_pos h20, if_neg hm]; simp [hm]
  rw [e0]
  have hc := hx.c
  have p1 := hx.part 0 8 (by omega)
  have p2 := hx.part 8 8 (by omega)
  have p3 := hx.part 16 4 (by omega)
  rw [List.drop_zero, Nat.add_zero, Nat.sub_zero] at p1
  have f3 := i64_id (numB_bd ((x.drop 16).take 4)).1 (numB_four p3.n)
  have c4 : (8 : Int) ≤ (cap : Int) := by omega
  have c8 : (16 : Int) ≤ (cap : Int) := by omega
  have c20 : (20 : Int) ≤ (cap : Int) := by omega
  have n8 : ¬ cap = 8 := by omega
  have n16 : ¬ cap = 16 := by omega
  have H1 := hide (fun (W : World) (hg : w.grownBy W none) => bget_any (p1.on (below_gr hg)) (by decide))
  have H2 := hide (fun (W : World) (hg : w.grownBy W none) => bget_any (p2.on (below_gr hg)) (by decide))
  have H3 := hide (fun (W : World) (hg : w.grownBy W none) => bget_any (p3.on (below_gr hg)) (by decide))
  generalize numB (x.take 8) = y1 at *
  generalize numB ((x.drop 8).take 8) = y2 at *
  generalize numB ((x.drop 16).take 4) = y3 at *
  have z8 : (r.ext == 8) = false := by rw [h20]; rfl
  have z20 : (r.ext == 20) = true := by rw [h20]; rfl
  have zm : (y3 == 4294967295) = false := by rw [beq_eq_false_iff_ne]; exact hm
  have zn : (y3 != 4294967295) = true := by simpa using hm
  simp only [r5C]
  have N1 : Hid (w = w) := rfl
  clear e0 p1 p2 p3 hx h20 hc hm
  go_enter Try.func25, Try.ntmps25
  go_wp2_with (first
    | (go_at_call 22; have t := N1; clear t; refine (H1.out _ (gr_trans (World.grownBy_alloc _ _ none) (gr_trans (World.grownBy_alloc _ _ none) (World.grownBy_alloc _ _ none)))).mono ?_; rintro e w2 ⟨rfl, rfl⟩; clear N1; have N2 : Hid (w = w) := rfl)
    | (go_at_call 22; have t := N2; clear t; refine (H2.out _ (gr_trans (World.grownBy_alloc _ _ none) (gr_trans (World.grownBy_alloc _ _ none) (World.grownBy_alloc _ _ none)))).mono ?_; rintro e w2 ⟨rfl, rfl⟩; clear N2; have N3 : Hid (w = w) := rfl)
    | (go_at_call 22; have t := N3; clear t; refine (H3.out _ (gr_trans (World.grownBy_alloc _ _ none) (gr_trans (World.grownBy_alloc _ _ none) (World.grownBy_alloc _ _ none)))).mono ?_; rintro e w2 ⟨rfl, rfl⟩; clear N3))
  refine bodyPost_ret (results_cell_row rfl _ _ (w.heap.size + 1) 39 (cmC ⟨r.op, ⟨#[]⟩, [], 0, y3, 0, y1, y2, true, false⟩ none 0) (0, 0) _ rfl ?_ Try.underlying39 rfl (cmd_size _ _ _)) rfl ?_
  · exact mid_new _ _ _ _
  · exact ⟨rfl, gr_trans (World.grownBy_alloc _ _ none) (gr_trans (World.grownBy_alloc _ _ none) (World.grownBy_alloc _ _ none))⟩
set_option maxRecDepth 100000 in
set_option maxHeartbeats 4000000 in
theorem cmd_4 (h8 : r.ext ≠ 8) (h20 : r.ext ≠ 20) (hx : Bu w (some ⟨g, off, none⟩) 4 cap x) : Calls Try.prog 25 #[.agg (r5C r), .slice (some ⟨g, off, none⟩) 4 cap] w fun e w' => CmdE (cmdB r x) w e w' := by
  have e0 : cmdB r x = ⟨r.op, ⟨#[]⟩, [], 0, numB x, 0, 0, 0, false, false⟩ := by unfold cmdB; rw [if_neg h8, if_neg h20, if_pos hx.n]
  rw [e0]
  have f1 := i64_id (numB_bd x).1 (numB_four hx.n)
  have H1 := hide (fun (W : World) (hg : w.grownBy W none) => bget_any (hx.on (below_gr hg)) (by decide))
  generalize numB x = y1 at *
  have z8 : (r.ext == 8) = false := by rw [beq_eq_false_iff_ne]; exact h8
  have z20 : (r.ext == 20) = false := by rw [beq_eq_false_iff_ne]; exact h20
  simp only [r5C]
  have N1 : Hid (w = w) := rfl
  clear e0 hx h8 h20
  go_enter Try.func25, Try.ntmps25
  go_wp2_with (go_at_call 22; have t := N1; clear t; refine (H1.out _ (gr_trans (World.grownBy_alloc _ _ none) (gr_trans (World.grownBy_alloc _ _ none) (World.grownBy_alloc _ _ none)))).mono ?_; rintro e w2 ⟨rfl, rfl⟩; clear N1)
  refine bodyPost_ret (results_cell_row rfl _ _ (w.heap.size + 1) 39 (cmC ⟨r.op, ⟨#[]⟩, [], 0, y1, 0, 0, 0, false, false⟩ none 0) (0, 0) _ rfl ?_ Try.underlying39 rfl (cmd_size _ _ _)) rfl ?_
  · exact mid_new _ _ _ _
  · exact ⟨rfl, gr_trans (World.grownBy_alloc _ _ none) (gr_trans (World.grownBy_alloc _ _ none) (World.grownBy_alloc _ _ none))⟩
set_option maxRecDepth 100000 in
set_option maxHeartbeats 4000000 in
theorem cmd_0 (h8 : r.ext ≠ 8) (h20 : r.ext ≠ 20) (a : Option Addr) (cap : Nat) : Calls Try.prog 25 #[.agg (r5C r), .slice a 0 cap] w fun e w' => CmdE (cmdB r []) w e w' := by
  have e0 : cmdB r [] = ⟨r.op, ⟨#[]⟩, [], 0, 0, 0, 0, 0, false, false⟩ := by unfold cmdB; rw [if_neg h8, if_neg h20, if_neg (by decide)]
  rw [e0]
  have z8 : (r.ext == 8) = false := by rw [beq_eq_false_iff_ne]; exact h8
  have z20 : (r.ext == 20) = false := by rw [beq_eq_false_iff_ne]; exact h20
  simp only [r5C]
  clear e0 h8 h20
  go_enter Try.func25, Try.ntmps25
  go_wp2
  refine bodyPost_ret (results_cell_row rfl _ _ (w.heap.size + 1) 39 (cmC ⟨r.op, ⟨#[]⟩, [], 0, 0, 0, 0, 0, false, false⟩ none 0) (0, 0) _ rfl ?_ Try.underlying39 rfl (cmd_size _ _ _)) rfl ?_
  · exact mid_new _ _ _ _
  · exact ⟨rfl, gr_trans (World.grownBy_alloc _ _ none) (gr_trans (World.grownBy_alloc _ _ none) (World.grownBy_alloc _ _ none))⟩
end
end Go.Proofs.Ytegaljpllcgaaaa
