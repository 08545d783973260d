/- The document's own text dialect: get, gets, gat and gats. Conditions: the words are not too long. -/
import Derived.Test.YtfcmnkhfmofioaaDoorRef14E
import Derived.Test.YtfcmnkhfmofioaaDoorTextOk
namespace Go.Proofs.YtfcmnkhfmofioaaDoor
set_option linter.unusedVariables false
set_option linter.unusedSimpArgs false
open Go.RowKit

/-- Where the function of the lines that ask begins: its result's block, its command's. -/
structure BegG (w W0 W1 : World) (c : Cv) : Prop where
  eW : w.alloc (.cells #[.slice none 0 0, .int .i64 0, .string ⟨#[]⟩, .int .i64 0, .int .u32 0, .bool false, .bool false, .string ⟨#[]⟩, .slice none 0 0, .slice none 0 0, .bool false, .string ⟨#[]⟩, .int .i64 0, .int .i64 0, .bool false, .int .i64 0] 34) = W0
  st : ∀ old, (W0.alloc (.cells old 40)).setRow (w.heap.size + 1) (cmC c none 0) = W1
  nw : ∀ old, (W0.alloc (.cells old 40)).heap[w.heap.size + 1]? = some (.cells old 40 (0, 0))
  g0 : w.grownBy W0 none
  gr : w.grownBy W1 none
  z0 : W0.heap.size = w.heap.size + 1
  z : W1.heap.size = w.heap.size + 2
  res : W1.heap[w.heap.size]? = some (.cells zeroSt 34 (0, 0))
  cmd : W1.heap[w.heap.size + 1]? = some (.cells (cmC c none 0) 40 (0, 0))
theorem begG_of (w : World) (c : Cv) : ∃ W0 W1, BegG w W0 W1 c := by
  obtain ⟨W0, hW0⟩ : ∃ W0, W0 = w.alloc (.cells zeroSt 34) := ⟨_, rfl⟩
  obtain ⟨W1, hW1⟩ : ∃ W1, W1 = W0.alloc (.cells (cmC c none 0) 40) := ⟨_, rfl⟩
  have z0 : W0.heap.size = w.heap.size + 1 := by rw [hW0, World.size_alloc]
  have g0 : w.grownBy W0 none := by rw [hW0]; exact World.grownBy_alloc _ _ _
  have g1 : W0.grownBy W1 none := by rw [hW1]; exact World.grownBy_alloc _ _ _
  have r0 : W0.heap[w.heap.size]? = some (.cells zeroSt 34 (0, 0)) := by rw [hW0]; exact World.alloc_heap_new _ _
  exact ⟨W0, W1, hW0.symm, fun old => by rw [hW1, ← z0]; exact setRow_alloc _ _ _ _, fun old => by rw [← z0]; exact World.alloc_heap_new _ _, g0, gr_trans g0 g1, z0, by rw [hW1, World.size_alloc, z0], (g1.block _ (by omega) (by simp)).trans r0, by rw [hW1, ← z0]; exact World.alloc_heap_new _ _⟩
/-- A cell of the command is written. -/
structure CmdSet (w W1 W2 : World) (c c' : Cv) (j : Nat) (v : Value) : Prop where
  eq : W1.setCell ⟨w.heap.size + 1, j, none⟩ v = W2
  fz : W1.frozen? ⟨w.heap.size + 1, j, none⟩ = false
  gr : w.grownBy W2 none
  z : W2.heap.size = w.heap.size + 2
  res : W2.heap[w.heap.size]? = some (.cells zeroSt 34 (0, 0))
  cmd : W2.heap[w.heap.size + 1]? = some (.cells (cmC c' none 0) 40 (0, 0))
theorem cmdSet_of {w W1 : World} {c : Cv} (c' : Cv) (j : Nat) (v : Value) (gr : w.grownBy W1 none) (z : W1.heap.size = w.heap.size + 2) (res : W1.heap[w.heap.size]? = some (.cells zeroSt 34 (0, 0))) (cmd : W1.heap[w.heap.size + 1]? = some (.cells (cmC c none 0) 40 (0, 0))) (hS : (cmC c none 0).setIfInBounds j v = cmC c' none 0) : ∃ W2, CmdSet w W1 W2 c c' j v := by
  have h := heap_setCell_same W1 (w.heap.size + 1) j _ _ v cmd
  rw [hS] at h
  exact ⟨_, rfl, frozen_of_row _ _ _ _ _ cmd, grPut gr (by omega) _, by rw [World.size_setCell]; exact z, (heap_setCell_other _ _ _ _ (show w.heap.size ≠ w.heap.size + 1 by omega)).trans res, h⟩
theorem slice_from {b n cap : Nat} (k : Nat) (ki : Int) (hki : ki = (k : Int)) (hk : k < n) (hc : n ≤ cap) (W : World) : (Instr.sliceAt 27 (.slice (some ⟨b, 0, none⟩) n cap) (some (.int .i64 ki)) none none).run Tryd.prog W = .ok (.slice (some ⟨b, k, none⟩) (n - k) (cap - k)) W := by
  subst hki
  have h1 : (k : Int) ≤ (n : Int) := by omega
  have h2 : ¬ cap = k := by omega
  have e : (some (Addr.add ⟨b, 0, none⟩ k) : Option Addr) = some ⟨b, k, none⟩ := by rw [add_at, Nat.zero_add]
  rw [← e]
  go_simp
def cmdG (op z : Int) : Cv := ⟨op, ⟨#[]⟩, [], 0, z, 0, 0, 0, false, false⟩
/-- A request as cells, its first k commands made. -/
def rqR (d : Dv) (k : Nat) (ca : Option Addr) (cc : Nat) (a : Option Addr) (c : Nat) : Array Value := #[.slice ca k cc, .int .i64 d.dia, .string (mkB d.verb), .int .i64 0, .int .u32 0, .bool d.quiet, .bool d.wcas, .string ⟨#[]⟩, .slice none 0 0, .slice a d.keys.length c, .bool false]
theorem rqR_size (d : Dv) (k : Nat) (ca : Option Addr) (cc : Nat) (a : Option Addr) (c : Nat) : (Tryd.prog.info? 31).map (·.size) = some (rqR d k ca cc a c).size := by
  have h : (Tryd.prog.info? 31).map (·.size) = some 11 := by kernel_rfl
  exact h
theorem rqR_one (d : Dv) (k : Nat) (ca : Option Addr) (cc : Nat) (a : Option Addr) (c : Nat) : (rqR d k ca cc a c).all (·.oneCell') = true := by simp [rqR, Value.oneCell']
theorem rqR_set (d : Dv) (k j : Nat) (ca cb : Option Addr) (cc cd : Nat) (a : Option Addr) (c : Nat) : (rqR d k ca cc a c).setIfInBounds 0 (.slice cb j cd) = rqR d j cb cd a c := by simp [rqR]
theorem cmC_key (d : Dv) (y x : List UInt8) : (cmC (cmdD d y) none 0).setIfInBounds 1 (.string (mkB x)) = cmC (cmdD d x) none 0 := by simp [cmC, cmdD]
/-- What the loop keeps: so many commands are made. -/
structure GInv (w wr : World) (d : Dv) (a : Option Addr) (c : Nat) (k : Nat) (ca : Option Addr) (cc : Nat) (y : List UInt8) : Prop where
  own : wr.ownsRow (w.heap.size + 3) 40 10 (.slice ca k cc) k (cmdsV d none 0 (d.keys.take k))
  req : wr.heap[w.heap.size + 2]? = some (.cells (rqR d k ca cc a c) 31 (0, 0))
  cmd : wr.heap[w.heap.size + 1]? = some (.cells (cmC (cmdD d y) none 0) 40 (0, 0))
  res : wr.heap[w.heap.size]? = some (.cells zeroSt 34 (0, 0))
  gr : w.grownBy wr none
  sz : w.heap.size + 3 ≤ wr.heap.size
theorem cm_row {W : World} {p : Nat} {c : Cv} (h : W.heap[p]? = some (.cells (cmC c none 0) 40 (0, 0))) : W.heap[p]? = some (.cells (cmC c none 0) 40 (0, 0)) := h
theorem ginv_key {w wr : World} {d : Dv} {a : Option Addr} {c k : Nat} {ca : Option Addr} {cc : Nat} {y : List UInt8} (I : GInv w wr d a c k ca cc y) (x : List UInt8) : ∃ W7, wr.setCell ⟨w.heap.size + 1, 1, none⟩ (.string (mkB x)) = W7 ∧ wr.cell? ⟨w.heap.size + 1, 1, none⟩ = some (.string (mkB y)) ∧ wr.frozen? ⟨w.heap.size + 1, 1, none⟩ = false ∧ W7.cell? ⟨w.heap.size + 2, 0, none⟩ = some (.slice ca k cc) ∧ W7.frozen? ⟨w.heap.size + 2, 0, none⟩ = false ∧ GInv w W7 d a c k ca cc x := by
  have h := heap_setCell_same wr (w.heap.size + 1) 1 _ _ (.string (mkB x)) I.cmd
  rw [cmC_key] at h
  have hr : (wr.setCell ⟨w.heap.size + 1, 1, none⟩ (.string (mkB x))).heap[w.heap.size + 2]? = some (.cells (rqR d k ca cc a c) 31 (0, 0)) := (heap_setCell_other _ _ _ _ (show w.heap.size + 2 ≠ w.heap.size + 1 by omega)).trans I.req
  refine ⟨_, rfl, by unfold World.cell?; rw [I.cmd]; rfl, frozen_of_row _ _ _ _ _ I.cmd, by unfold World.cell?; rw [hr]; rfl, frozen_of_row _ _ _ _ _ hr, ?_, hr, h, (heap_setCell_other _ _ _ _ (show w.heap.size ≠ w.heap.size + 1 by omega)).trans I.res, grPut I.gr (by omega) _, by rw [World.size_setCell]; exact I.sz⟩
  exact own_same I.own fun i hi => heap_setCell_other _ _ _ _ (show i ≠ w.heap.size + 1 by have := (own_at I.own hi).1; omega)
theorem ginv_app {w W7 W8 w1 : World} {d : Dv} {a : Option Addr} {c k cc : Nat} {ca : Option Addr} {x : List UInt8} {v : Value} {row : Option Nat} (I : GInv w W7 d a c k ca cc x) (g8 : W7.grownBy W8 none) (g1 : W8.grownBy w1 row) (hrow : ∀ b, row = some b → w.heap.size + 3 ≤ b)
    (o1 : w1.ownsRow (w.heap.size + 3) 40 10 v (k + 1) (cmdsV d none 0 (d.keys.take k) ++ (cmC (cmdD d x) none 0).toList)) (hx : d.keys.take (k + 1) = d.keys.take k ++ [x]) :
    ∃ cb cd W9, v = .slice cb (k + 1) cd ∧ w1.setCell ⟨w.heap.size + 2, 0, none⟩ (.slice cb (k + 1) cd) = W9 ∧ w1.cell? ⟨w.heap.size + 2, 0, none⟩ = some (.slice ca k cc) ∧ w1.frozen? ⟨w.heap.size + 2, 0, none⟩ = false ∧ GInv w W9 d a c (k + 1) cb cd x := by
  have hz := I.sz
  have hz8 := g8.size
  have hz1 := g1.size
  have so : ∀ i, i < w.heap.size + 3 → w1.heap[i]? = W7.heap[i]? := fun i hi => (g1.block i (by omega) (fun e => by have := hrow i e.symm; omega)).trans (g8.block i (by omega) (by simp))
  have hr := (so (w.heap.size + 2) (by omega)).trans I.req
  obtain ⟨cb, cd, rfl⟩ := own_shape o1
  have h := heap_setCell_same w1 (w.heap.size + 2) 0 _ _ (.slice cb (k + 1) cd) hr
  rw [rqR_set] at h
  have g3 : w.grownBy w1 none := gr_rows I.gr g8 g1 (fun b hb => by have := hrow b hb; omega)
  refine ⟨cb, cd, _, rfl, rfl, by unfold World.cell?; rw [hr]; rfl, frozen_of_row _ _ _ _ _ hr, ?_, h, (heap_setCell_other _ _ _ _ (show w.heap.size + 1 ≠ w.heap.size + 2 by omega)).trans ((so _ (by omega)).trans I.cmd), (heap_setCell_other _ _ _ _ (show w.heap.size ≠ w.heap.size + 2 by omega)).trans ((so _ (by omega)).trans I.res), grPut g3 (by omega) _, by rw [World.size_setCell]; omega⟩
  rw [hx, cmdsV_snoc]
  exact own_same o1 fun i hi => heap_setCell_other _ _ _ _ (show i ≠ w.heap.size + 2 by have := (own_at o1 hi).1; omega)
theorem app_b1 {k : Nat} (h : k ≤ 5000) : k + 1 ≤ maxLen := by unfold maxLen; omega
theorem app_b2 {k : Nat} (h : k ≤ 5000) : (k + 1) * 96 ≤ 140737488355328 := by omega
/-- The request's commands are made. -/
theorem ginv_end {w wr : World} {d : Dv} {b at_ : Nat} {n cap : Nat} {ws : List (List UInt8)} {ca : Option Addr} {cc : Nat} {y : List UInt8} {u : Int} (I : GInv w wr d (some ⟨b, at_, none⟩) (cap - at_) d.keys.length ca cc y) (hne : d.keys ≠ []) (hv : d.val = []) (hW : Ru w b 0 n cap ws) (hk : ws.drop at_ = d.keys) (hle : at_ ≤ n) :
    wr.heap[w.heap.size + 2]? = some (.cells (rqC (reqD d) ca cc none 0 (some ⟨b, at_, none⟩) (cap - at_)) 31 (0, 0)) ∧ wr.heap[w.heap.size]? = some (.cells zeroSt 34 (0, 0)) ∧
    (wr.setRow w.heap.size (stC ⟨reqD d, ⟨#[]⟩, u, 0, false, 0⟩ ca cc none 0 (some ⟨b, at_, none⟩) (cap - at_))).heap[w.heap.size]? = some (.cells (stC ⟨reqD d, ⟨#[]⟩, u, 0, false, 0⟩ ca cc none 0 (some ⟨b, at_, none⟩) (cap - at_)) 34 (0, 0)) ∧ REnd b ⟨reqD d, ⟨#[]⟩, u, 0, false, 0⟩ w (.returned (.agg (stC ⟨reqD d, ⟨#[]⟩, u, 0, false, 0⟩ ca cc none 0 (some ⟨b, at_, none⟩) (cap - at_)))) (wr.setRow w.heap.size (stC ⟨reqD d, ⟨#[]⟩, u, 0, false, 0⟩ ca cc none 0 (some ⟨b, at_, none⟩) (cap - at_))) := by
  have hks : ksD d = d.keys := by unfold ksD; rw [if_neg hne]
  have e1 : rqC (reqD d) ca cc none 0 (some ⟨b, at_, none⟩) (cap - at_) = rqR d d.keys.length ca cc (some ⟨b, at_, none⟩) (cap - at_) := req_cells (by rw [ksD_cmds, hks, List.length_map]) ca cc
  have o := I.own
  rw [List.take_length] at o
  have hr := I.req
  rw [← e1] at hr
  refine ⟨hr, I.res, r_end hW.lt I.res I.gr fun W' hw hz => ?_⟩
  have o2 := own_same o fun i hi => hw i (.inr (by have := (own_at o hi).1; omega)) (own_at o hi).2.1
  obtain ⟨ca', cc', e, hc⟩ := cu_of o2 (by rw [hv]; exact bu_none _)
  cases e
  have hb := hw b (.inl rfl) (Nat.lt_of_lt_of_le hW.lt I.gr.size)
  have r2 := ((hW.on I.gr).keep hb hz).drop at_ hle
  rw [hk] at r2
  have r3 := r2.su
  rw [Nat.zero_add] at r3
  have hn : n - at_ = (d.keys.map mkB).length := by rw [List.length_map]; exact r2.n.symm
  rw [hn] at r3
  refine ⟨?_, Su.none_ _, r3⟩
  rw [ksD_cmds, hks, List.length_map]
  exact hc
end Go.Proofs.YtfcmnkhfmofioaaDoor
