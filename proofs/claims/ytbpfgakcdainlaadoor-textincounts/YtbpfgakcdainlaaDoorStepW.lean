/- Two requests of which one has more commands. Conditions: none. -/
import Derived.Test.YtbpfgakcdainlaaDoorStepU
namespace Go.Proofs.YtbpfgakcdainlaaDoor
set_option linter.unusedVariables false
open Go.RowKit

section
variable {w : World} {r u : Qv} {ca ta ka cb tb kb : Option Addr} {cc tc kc cd td kd : Nat}
set_option maxRecDepth 100000 in
set_option maxHeartbeats 4000000 in
theorem requests_ne (hn : r.cmds.length ≠ u.cmds.length) : Calls Tryd.prog 10 #[.agg (rqC r ca cc ta tc ka kc), .agg (rqC u cb cd tb td kb kd)] w fun e w' => e = .returned (.bool false) ∧ w.grownBy w' none := by
  have H := ((((Law.start w).box (.cells (rqC r ca cc ta tc ka kc) 31)).box (.cells (rqC u cb cd tb td kb kd) 31)).box (.cells (fmC r.form ta tc ka kc) 29)).box (.cells (fmC u.form tb td kb kd) 29)
  simp only [World.size_alloc] at H
  obtain ⟨W2, hW2⟩ : ∃ W2, W2 = (w.alloc (.cells (rqC r ca cc ta tc ka kc) 31)).alloc (.cells (rqC u cb cd tb td kb kd) 31) := ⟨_, rfl⟩
  obtain ⟨W3, hW3⟩ : ∃ W3, W3 = W2.alloc (.cells (fmC r.form ta tc ka kc) 29) := ⟨_, rfl⟩
  obtain ⟨W4, hW4⟩ : ∃ W4, W4 = W3.alloc (.cells (fmC u.form tb td kb kd) 29) := ⟨_, rfl⟩
  have z2 : W2.heap.size = w.heap.size + 1 + 1 := by rw [hW2, World.size_alloc, World.size_alloc]
  have z3 : W3.heap.size = w.heap.size + 1 + 1 + 1 := by rw [hW3, World.size_alloc, z2]
  rw [← hW2, ← hW3, ← hW4] at H
  have hA2 : W2.heap[w.heap.size]? = some (.cells (rqC r ca cc ta tc ka kc) 31 (0, 0)) := by rw [hW2, Below.heap_alloc _ _ _ (by rw [World.size_alloc]; omega)]; exact World.alloc_heap_new _ _
  have hB3 : W3.heap[w.heap.size + 1]? = some (.cells (rqC u cb cd tb td kb kd) 31 (0, 0)) := by
    rw [hW3, Below.heap_alloc _ _ _ (by omega), hW2]
    have := World.alloc_heap_new (w.alloc (.cells (rqC r ca cc ta tc ka kc) 31)) (.cells (rqC u cb cd tb td kb kd) 31)
    rw [World.size_alloc] at this
    exact this
  have ra := rq_form hA2
  have rb := rq_form hB3
  have S3 : Hid (∀ old, (W2.alloc (.cells old 29)).setRow (w.heap.size + 1 + 1) (fmC r.form ta tc ka kc) = W3) := fun old => by rw [hW3, ← z2]; exact setRow_alloc _ _ _ _
  have S4 : Hid (∀ old, (W3.alloc (.cells old 29)).setRow (w.heap.size + 1 + 1 + 1) (fmC u.form tb td kb kd) = W4) := fun old => by rw [hW4, ← z3]; exact setRow_alloc _ _ _ _
  have N3 : Hid (∀ old, (W2.alloc (.cells old 29)).heap[w.heap.size + 1 + 1]? = some (.cells old 29 (0, 0))) := fun old => by rw [← z2]; exact World.alloc_heap_new _ _
  have N4 : Hid (∀ old, (W3.alloc (.cells old 29)).heap[w.heap.size + 1 + 1 + 1]? = some (.cells old 29 (0, 0))) := fun old => by rw [← z3]; exact World.alloc_heap_new _ _
  have a0 := rq_at H.q.2.1.2.1.2.1.1 0 _ rfl
  have b0 := rq_at H.q.2.1.2.1.1 0 _ rfl
  have HG := hide (gr_of_below H.below)
  obtain ⟨n, hnn⟩ : ∃ n, r.cmds.length = n := ⟨_, rfl⟩
  obtain ⟨m, hmm⟩ : ∃ m, u.cmds.length = m := ⟨_, rfl⟩
  have a1 : W4.cell? ⟨w.heap.size, 0, none⟩ = some (.slice ca n cc) := by rw [← hnn]; exact a0
  have b1 : W4.cell? ⟨w.heap.size + 1, 0, none⟩ = some (.slice cb m cd) := by rw [← hmm]; exact b0
  have hne : ¬ (n : Int) = (m : Int) := by omega
  clear H hA2 hB3 hW3 hW4 a0 b0 hn hnn hmm
  go_enter Tryd.func10, Tryd.ntmps10
  go_wp2_with (first
    | (have t1 := hW2; clear t1; rw [← hW2]; refine wpList_load_mid rfl 29 _ rfl w.heap.size 1 rfl (fmC r.form ta tc ka kc).toList _ ra Tryd.underlying29 rfl (by rw [fmC_size r.form ta tc ka kc, Array.length_toList]) ?_; clear hW2)
    | (refine wpList_load_mid rfl 29 _ rfl (w.heap.size + 1) 1 rfl (fmC u.form tb td kb kd).toList _ rb Tryd.underlying29 rfl (by rw [fmC_size u.form tb td kb kd, Array.length_toList]) ?_)
    | (refine wpList_store_row rfl 29 _ _ rfl (w.heap.size + 1 + 1) (fmC r.form ta tc ka kc) rfl rfl _ _ (N3.out _) (fmC_size _ _ _ _ _) rfl (fmC_one _ _ _ _ _) ?_; rw [S3.out])
    | (refine wpList_store_row rfl 29 _ _ rfl (w.heap.size + 1 + 1 + 1) (fmC u.form tb td kb kd) rfl rfl _ _ (N4.out _) (fmC_size _ _ _ _ _) rfl (fmC_one _ _ _ _ _) ?_; rw [S4.out]))
  go_ret
  exact ⟨rfl, HG.out⟩
/-- A step without commands, held against any step that has commands or none at all. -/
theorem steps_some {s u : Sv} {cs ds : Array Value} (hs : s.req = noQ) (hu : u.req = noQ ∨ 0 < u.req.cmds.length) (h1 : StepAt w s cs) (h2 : StepAt w u ds) : Calls Tryd.prog 6 #[.agg cs, .agg ds] w fun e w' => (∃ b, e = .returned (.bool b)) ∧ w.grownBy w' none := by
  refine steps_bool h1 h2 fun W ca ta ka cb tb kb cc tc kc cd td kd q1 q2 => ?_
  rw [hs] at q1 ⊢
  rcases hu with hu | hu
  · rw [hu] at q2 ⊢
    exact (requests_eq q1 q2 (by decide) (by decide) (by decide)).mono fun e w' ⟨h, g⟩ => ⟨⟨_, h⟩, g⟩
  · exact (requests_ne (r := noQ) (u := u.req) (show (0 : Nat) ≠ u.req.cmds.length by omega)).mono fun e w' ⟨h, g⟩ => ⟨⟨_, h⟩, g⟩
end
end Go.Proofs.YtbpfgakcdainlaaDoor
