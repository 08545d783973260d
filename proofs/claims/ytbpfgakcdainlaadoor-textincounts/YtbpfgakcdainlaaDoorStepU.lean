/- Two steps held against each other by the statements' own helper. Conditions: at most 1000000 commands, keys and tokens. -/
import Derived.Test.YtbpfgakcdainlaaDoorStepT
namespace Go.Proofs.YtbpfgakcdainlaaDoor
set_option linter.unusedVariables false
open Go.RowKit

section
variable {w : World} {s : Sv} {ca ta ka : Option Addr} {cc tc kc : Nat} {t : TypeId} {p : Nat}
theorem st_at (h : w.heap[p]? = some (.cells (stC s ca cc ta tc ka kc) t (0, 0))) (j : Nat) (v : Value) (hv : (stC s ca cc ta tc ka kc)[j]? = some v) : w.cell? ⟨p, j, none⟩ = some v := by
  unfold World.cell?
  rw [h]
  exact hv
theorem st_req (h : w.heap[p]? = some (.cells (stC s ca cc ta tc ka kc) t (0, 0))) : w.rangeAt p 0 (rqC s.req ca cc ta tc ka kc).toList := fun j v hv => by
  have hj : j < 11 := (List.getElem?_eq_some_iff.1 hv).1
  refine st_at h _ v ?_
  match j, hj with
  | 0, _ | 1, _ | 2, _ | 3, _ | 4, _ | 5, _ | 6, _ | 7, _ | 8, _ | 9, _ | 10, _ => exact hv
theorem st_cells (h : w.heap[p]? = some (.cells (stC s ca cc ta tc ka kc) t (0, 0))) : w.cell? ⟨p, 11, none⟩ = some (.string s.reply) ∧ w.cell? ⟨p, 12, none⟩ = some (.int .i64 s.used) ∧ w.cell? ⟨p, 13, none⟩ = some (.int .i64 s.skip) ∧ w.cell? ⟨p, 14, none⟩ = some (.bool s.line) ∧ w.cell? ⟨p, 15, none⟩ = some (.int .i64 s.e) :=
  ⟨st_at h 11 _ rfl, st_at h 12 _ rfl, st_at h 13 _ rfl, st_at h 14 _ rfl, st_at h 15 _ rfl⟩
end
/-- Not too many of anything. -/
structure Few1 (r : Qv) : Prop where
  cmds : r.cmds.length ≤ 1000000
  keys : r.form.keys.length ≤ 1000000
  toks : r.form.toks.length ≤ 1000000
section
variable {w : World}
set_option maxRecDepth 100000 in
set_option maxHeartbeats 4000000 in
theorem steps_eq {s : Sv} {cs ds : Array Value} (hf : Few1 s.req) (h1 : StepAt w s cs) (h2 : StepAt w s ds) : Calls Tryd.prog 6 #[.agg cs, .agg ds] w fun e w' => e = .returned (.bool true) ∧ w.grownBy w' none := by
  obtain ⟨ca, cc, ta, tc, ka, kc, rfl, q1⟩ := h1
  obtain ⟨cb, cd, tb, td, kb, kd, rfl, q2⟩ := h2
  have H := ((Law.start w).box (.cells (stC s ca cc ta tc ka kc) 34)).box (.cells (stC s cb cd tb td kb kd) 34)
  simp only [World.size_alloc] at H
  obtain ⟨W2, hW2⟩ : ∃ W2, W2 = (w.alloc (.cells (stC s ca cc ta tc ka kc) 34)).alloc (.cells (stC s cb cd tb td kb kd) 34) := ⟨_, rfl⟩
  rw [← hW2] at H
  have ra := st_req H.q.2.1.1
  have rb := st_req H.q.1
  have gw : w.grownBy W2 none := gr_of_below H.below
  have HC := hide (requests_eq (q1.on H.below) (q2.on H.below) hf.cmds hf.keys hf.toks)
  have HX := hide (fun (W : World) (hg : W2.grownBy W none) => And.intro (st_cells (H.step hg).q.2.1.1) (st_cells (H.step hg).q.1))
  have HG := hide gw
  clear H q1 q2 gw hf
  go_enter Tryd.func6, Tryd.ntmps6
  go_wp2_with (first
    | (have t1 := hW2; clear t1; rw [← hW2]; refine wpList_load_mid rfl 31 _ rfl w.heap.size 0 rfl (rqC s.req ca cc ta tc ka kc).toList _ ra Tryd.underlying31 rfl (by rw [req_size s.req ca ta ka cc tc kc, Array.length_toList]) ?_; clear hW2)
    | (refine wpList_load_mid rfl 31 _ rfl (w.heap.size + 1) 0 rfl (rqC s.req cb cd tb td kb kd).toList _ rb Tryd.underlying31 rfl (by rw [req_size s.req cb tb kb cd td kd, Array.length_toList]) ?_)
    | (go_at_call 10; refine HC.out.mono ?_; rintro e w3 ⟨rfl, g3⟩; obtain ⟨⟨x1, x2, x3, x4, x5⟩, y1, y2, y3, y4, y5⟩ := HX.out w3 g3; replace g3 := hide (gr_trans HG.out g3); clear ra rb))
  go_ret
  exact ⟨by first | rfl | (simp; done), g3.out⟩
set_option maxRecDepth 100000 in
set_option maxHeartbeats 4000000 in
theorem steps_bool {s u : Sv} {cs ds : Array Value} (h1 : StepAt w s cs) (h2 : StepAt w u ds) (hq : ∀ (W : World) (ca ta ka cb tb kb : Option Addr) (cc tc kc cd td kd : Nat), QAt W s.req ca cc ta tc ka kc → QAt W u.req cb cd tb td kb kd → Calls Tryd.prog 10 #[.agg (rqC s.req ca cc ta tc ka kc), .agg (rqC u.req cb cd tb td kb kd)] W fun e w' => (∃ b, e = .returned (.bool b)) ∧ W.grownBy w' none) : Calls Tryd.prog 6 #[.agg cs, .agg ds] w fun e w' => (∃ b, e = .returned (.bool b)) ∧ w.grownBy w' none := by
  obtain ⟨ca, cc, ta, tc, ka, kc, rfl, q1⟩ := h1
  obtain ⟨cb, cd, tb, td, kb, kd, rfl, q2⟩ := h2
  have H := ((Law.start w).box (.cells (stC s ca cc ta tc ka kc) 34)).box (.cells (stC u cb cd tb td kb kd) 34)
  simp only [World.size_alloc] at H
  obtain ⟨W2, hW2⟩ : ∃ W2, W2 = (w.alloc (.cells (stC s ca cc ta tc ka kc) 34)).alloc (.cells (stC u cb cd tb td kb kd) 34) := ⟨_, rfl⟩
  rw [← hW2] at H
  have ra := st_req H.q.2.1.1
  have rb := st_req H.q.1
  have gw : w.grownBy W2 none := gr_of_below H.below
  have HC := hide (hq W2 ca ta ka cb tb kb cc tc kc cd td kd (q1.on H.below) (q2.on H.below))
  have HX := hide (fun (W : World) (hg : W2.grownBy W none) => And.intro (st_cells (H.step hg).q.2.1.1) (st_cells (H.step hg).q.1))
  have HG := hide gw
  clear H q1 q2 gw hq
  go_enter Tryd.func6, Tryd.ntmps6
  go_wp2_with (first
    | (have t1 := hW2; clear t1; rw [← hW2]; refine wpList_load_mid rfl 31 _ rfl w.heap.size 0 rfl (rqC s.req ca cc ta tc ka kc).toList _ ra Tryd.underlying31 rfl (by rw [req_size s.req ca ta ka cc tc kc, Array.length_toList]) ?_; clear hW2)
    | (refine wpList_load_mid rfl 31 _ rfl (w.heap.size + 1) 0 rfl (rqC u.req cb cd tb td kb kd).toList _ rb Tryd.underlying31 rfl (by rw [req_size u.req cb tb kb cd td kd, Array.length_toList]) ?_)
    | (go_at_call 10; refine HC.out.mono ?_; rintro e w3 ⟨⟨b, rfl⟩, g3⟩; obtain ⟨⟨x1, x2, x3, x4, x5⟩, y1, y2, y3, y4, y5⟩ := HX.out w3 g3; replace g3 := hide (gr_trans HG.out g3); clear ra rb))
  all_goals
    go_ret
    exact ⟨⟨_, rfl⟩, g3.out⟩
end
end Go.Proofs.YtbpfgakcdainlaaDoor
