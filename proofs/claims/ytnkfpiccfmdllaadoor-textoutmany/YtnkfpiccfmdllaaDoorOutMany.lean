/- Copies of a request whose commands are cut; what the answers to them are together. Conditions: none. -/
import Derived.Test.YtnkfpiccfmdllaaDoorOutAw
import Derived.Test.YtnkfpiccfmdllaaDoorOutFew
namespace Go.Proofs.YtnkfpiccfmdllaaDoor
set_option linter.unusedVariables false
open Go.RowKit Go.Shelf

/-- A request as cells, its commands told by where they lie. -/
def rqF (f : Fv) (n : Nat) (ca : Option Addr) (cc : Nat) (ta : Option Addr) (tc : Nat) (ka : Option Addr) (kc : Nat) : Array Value :=
  #[.slice ca n cc, .int .i64 f.dia, .string f.verb, .int .i64 f.code, .int .u32 f.opq, .bool f.quiet, .bool f.wcas, .string f.flags, .slice ta f.toks.length tc, .slice ka f.keys.length kc, .bool f.b64]
theorem rqF_of (r : Qv) {n : Nat} (h : r.cmds.length = n) (ca : Option Addr) (cc : Nat) (ta : Option Addr) (tc : Nat) (ka : Option Addr) (kc : Nat) : rqC r ca cc ta tc ka kc = rqF r.form n ca cc ta tc ka kc := by subst h; rfl
theorem rqF_size (f : Fv) (n : Nat) (ca ta ka : Option Addr) (cc tc kc : Nat) : (Tryd.prog.info? 28).map (·.size) = some (rqF f n ca cc ta tc ka kc).size := by
  have h : (Tryd.prog.info? 28).map (·.size) = some 11 := by kernel_rfl
  exact h
theorem rqF_one (f : Fv) (n : Nat) (ca ta ka : Option Addr) (cc tc kc : Nat) : (rqF f n ca cc ta tc ka kc).all (·.oneCell') = true := by simp [rqF, Value.oneCell']
theorem keep_cell {w w' : World} {p : Addr} {v : Value} (hg : w.grownBy w' none) (h : w.cell? p = some v) : w'.cell? p = some v := ((below_gr hg).cell (World.block_lt_of_cell? w _ h)).trans h
/-- The copy's commands are set. -/
theorem copy_put (w : World) (f : Fv) (n m : Nat) (ca cb ta ka : Option Addr) (cc cd tc kc : Nat) (t : TypeId) : (w.alloc (.cells (rqF f n ca cc ta tc ka kc) t)).setCell ⟨w.heap.size, 0, none⟩ (.slice cb m cd) = w.alloc (.cells (rqF f m cb cd ta tc ka kc) t) := by
  rw [setCell_eq_setRow _ _ 0 _ _ _ _ (World.alloc_heap_new w _), setRow_alloc]
  rfl
theorem copy_cells (w : World) (f : Fv) (n : Nat) (ca ta ka : Option Addr) (cc tc kc : Nat) (t : TypeId) : (w.alloc (.cells (rqF f n ca cc ta tc ka kc) t)).cell? ⟨w.heap.size, 0, none⟩ = some (.slice ca n cc) ∧ (w.alloc (.cells (rqF f n ca cc ta tc ka kc) t)).frozen? ⟨w.heap.size, 0, none⟩ = false :=
  ⟨World.cell?_alloc_new _ _ _ _, frozen_of_row _ _ _ _ _ (World.alloc_heap_new w _)⟩
/-- A block of a request's cells, whatever else is laid. -/
structure Rows3 (w W : World) (q p1 p2 : Nat) (A0 A1 A2 : Array Value) : Prop where
  gr : w.grownBy W none
  l0 : q < W.heap.size
  l1 : p1 < W.heap.size
  l2 : p2 < W.heap.size
  r0 : W.heap[q]? = some (.cells A0 28 (0, 0))
  r1 : W.heap[p1]? = some (.cells A1 28 (0, 0))
  r2 : W.heap[p2]? = some (.cells A2 28 (0, 0))
theorem Rows3.on {w W W' : World} {q p1 p2 : Nat} {A0 A1 A2 : Array Value} (h : Rows3 w W q p1 p2 A0 A1 A2) (hg : W.grownBy W' none) : Rows3 w W' q p1 p2 A0 A1 A2 :=
  ⟨gr_trans h.gr hg, Nat.lt_of_lt_of_le h.l0 hg.size, Nat.lt_of_lt_of_le h.l1 hg.size, Nat.lt_of_lt_of_le h.l2 hg.size, (hg.block q h.l0 (by simp)).trans h.r0, (hg.block p1 h.l1 (by simp)).trans h.r1, (hg.block p2 h.l2 (by simp)).trans h.r2⟩
theorem rows3_new {w W1 W2 : World} {q p1 p2 : Nat} {A0 A1 A2 : Array Value} (hq : w.heap[q]? = some (.cells A0 28 (0, 0))) (h1 : W1 = w.alloc (.cells A1 28)) (h2 : W2 = W1.alloc (.cells A2 28)) (e1 : p1 = w.heap.size) (e2 : p2 = W1.heap.size) : Rows3 w W2 q p1 p2 A0 A1 A2 := by
  have g1 : w.grownBy W1 none := by rw [h1]; exact World.grownBy_alloc _ _ _
  have g2 : W1.grownBy W2 none := by rw [h2]; exact World.grownBy_alloc _ _ _
  have hq0 : q < w.heap.size := (Array.getElem?_eq_some_iff.1 hq).1
  have s1 : W1.heap.size = w.heap.size + 1 := by rw [h1, World.size_alloc]
  have s2 : W2.heap.size = w.heap.size + 1 + 1 := by rw [h2, World.size_alloc, s1]
  refine ⟨gr_trans g1 g2, by omega, by omega, by omega, ((gr_trans g1 g2).block q hq0 (by simp)).trans hq, (g2.block p1 (by omega) (by simp)).trans ?_, ?_⟩
  · rw [h1, e1]; exact World.alloc_heap_new w _
  · rw [h2, e2]; exact World.alloc_heap_new W1 _
section
variable {P : Program} {md : Region.Mode} {ops : Array Oper} {Q : Exit → Act → World → Prop} {S : World → Prop}
/-- One alone may come up, guarded or not. -/
theorem one_at_g (i : Nat) {o : Oper} {fuel : Nat} {listed : Array Bool} {a : Act} {w : World} (hr : Region.ready md ops listed = [i]) (ho : ops[i]? = some o) (hw : Region.wanted o (yielded ops a.tmps) = true)
    (h : o.wp P a w (fun a' w' => S w' ∧ wpAnyH P md ops Q S fuel (listed.setIfInBounds i true) a' w') Q) : wpAnyH P md ops Q S (fuel + 1) listed a w := by
  refine wpAnyH_all hr (by simp) fun j hj => ?_
  obtain rfl : j = i := by simpa using hj
  unfold wpOp
  simp only [ho, hw, if_true]
  exact .inl h
end
theorem quiet_row {P : Program} {C : World → Prop} {o : Oper} {a : Act} {w : World} (ty : TypeId) (x : Operand) (ho : o.op = .load ty x) (g : Nat) (hx : a.eval x = .pointer (some ⟨g, 0, none⟩)) {t : TypeId} {cs : Array Value} {fr : Nat × Nat} {d : TypeDesc} (hg : w.heap[g]? = some (.cells cs t fr))
    (hu : P.underlying ty = some d) (hd : (match d with | .struct _ | .array _ _ => true | _ => false) = true) (hi : (P.info? ty).map (·.size) = some cs.size) : o.quietAt P a C w (.agg cs) := by
  unfold Oper.quietAt
  rw [run_load_row ty x ho g hx hg hu hd hi]
  exact ⟨rfl, rfl⟩
/-- The request with its first command alone, and with all others. -/
def oneQ (r : Qv) : Qv := ⟨r.cmds.take 1, r.form⟩
def restQ (r : Qv) : Qv := ⟨r.cmds.drop 1, r.form⟩
theorem many_pure (r : Qv) (xs : List Rv) (h2 : 2 ≤ r.cmds.length) (hm : xs.length = r.cmds.length) (ho : ∀ j (h : j < r.cmds.length), (r.cmds[j]).op = 0) :
    ∃ Y, encL (oneQ r) (xs.take 1) = Y ++ (tailL ++ endL) ∧ encL r xs = Y ++ encL (restQ r) (xs.drop 1) := by
  obtain ⟨cmds, f⟩ := r
  match cmds, xs, h2, hm, ho with
  | c :: d :: cs, x :: y :: ys, _, _, ho =>
    have h0 : c.op = 0 := ho 0 (by simp)
    have h1 : d.op = 0 := ho 1 (by simp)
    refine ⟨hitL c.key x f.wcas, ?_, ?_⟩
    · simp only [encL, oneQ, List.take_succ_cons, List.take_zero, h0, true_or, if_true, hitsL, List.append_nil]
    · simp only [encL, restQ, List.drop_succ_cons, List.drop_zero, h0, h1, true_or, if_true, hitsL, List.append_assoc]
theorem FewR.one {r : Qv} {xs : List Rv} (h : FewR r xs) : FewR (oneQ r) (xs.take 1) :=
  ⟨by have := h.n; show (r.cmds.take 1).length ≤ 40; rw [List.length_take]; omega, by have := h.m; rw [List.length_take]; omega, fun c hc => h.k c (List.mem_of_mem_take hc), fun x hx => h.v x (List.mem_of_mem_take hx)⟩
theorem FewR.rest {r : Qv} {xs : List Rv} (h : FewR r xs) : FewR (restQ r) (xs.drop 1) :=
  ⟨by have := h.n; show (r.cmds.drop 1).length ≤ 40; rw [List.length_drop]; omega, by have := h.m; rw [List.length_drop]; omega, fun c hc => h.k c (List.mem_of_mem_drop hc), fun x hx => h.v x (List.mem_of_mem_drop hx)⟩
theorem Cu.rest {w : World} {b off len cap : Nat} {xs : List Cv} (h : Cu w (some ⟨b, off, none⟩) len cap xs) (h1 : 1 ≤ len) : Cu w (some ⟨b, off + 10, none⟩) (len - 1) (cap - 1) (xs.drop 1) := by
  refine ⟨by rw [List.length_drop, h.n], by have := h.c; omega, by have := h.m; omega, ?_⟩
  rcases h.at_ with h0 | ⟨b', off', e, hl, hx⟩
  · omega
  · obtain ⟨rfl, rfl⟩ : b = b' ∧ off = off' := by cases e; exact ⟨rfl, rfl⟩
    refine .inr ⟨b, off + 10, rfl, hl, fun j y hj => ?_⟩
    rw [List.getElem?_drop] at hj
    obtain ⟨va, vc, g1, g2⟩ := hx (1 + j) y hj
    exact ⟨va, vc, by rw [show off + 10 + j * 10 = off + (1 + j) * 10 by omega]; exact g1, g2⟩
theorem Ru.rest {w : World} {b off len cap : Nat} {xs : List Rv} (h : Ru w (some ⟨b, off, none⟩) len cap xs) (h1 : 1 ≤ len) : Ru w (some ⟨b, off + 9, none⟩) (len - 1) (cap - 1) (xs.drop 1) := by
  refine ⟨by rw [List.length_drop, h.n], by have := h.c; omega, by have := h.m; omega, fun x hx => h.ok x (List.mem_of_mem_drop hx), ?_⟩
  rcases h.at_ with h0 | ⟨b', off', e, hl, hx⟩
  · omega
  · obtain ⟨rfl, rfl⟩ : b = b' ∧ off = off' := by cases e; exact ⟨rfl, rfl⟩
    refine .inr ⟨b, off + 9, rfl, hl, fun j y hj => ?_⟩
    rw [List.getElem?_drop] at hj
    obtain ⟨va, vc, g1, g2⟩ := hx (1 + j) y hj
    exact ⟨va, vc, by rw [show off + 9 + j * 9 = off + (1 + j) * 9 by omega]; exact g1, g2⟩
theorem encL_len {r : Qv} {xs : List Rv} (hf : FewR r xs) (hx : ∀ x ∈ xs, x.ok) : (encL r xs).length ≤ 200000 := by
  have h := hitsL_len r.form.wcas r.cmds xs hf.k (fun x hx' => ⟨hx x hx', hf.v x hx'⟩)
  have hn := hf.n
  unfold encL
  split
  · rename_i c cs x xs' e1
    split
    · rw [List.length_append]
      show _ + 5 ≤ _
      omega
    · split
      · simp
      · split
        · simp
        · have hxo := hx x List.mem_cons_self
          have h1 := (showL_len hxo.n0 hxo.n1).1
          have h2 := wordL_few x.s
          unfold outL
          split
          · rw [List.length_append]; show _ + 2 ≤ _; omega
          · split
            · simp
            · rw [List.length_append]; show _ + 2 ≤ _; omega
  · simp
theorem sum_of {X1 X2 : List UInt8} {m : Nat} (h1 : X1.length ≤ 200000) (h2 : X2.length ≤ 200000) : min m (mkS X1).size + (mkS X2).size ≤ 9223372036854775807 := by
  rw [mkS_size, mkS_size]
  omega
/-- What is told of the first one's end. -/
theorem cut_facts {X Y Z : List UInt8} (hX : X = Y ++ (tailL ++ endL)) (hl : X.length ≤ maxLen) : ∃ m : Nat, wrap64 (((mkS X).size : Int) - 5) = (m : Int) ∧ (m : Int) ≤ ((mkS X).size : Int) ∧ (((mkS X).extract m (mkS X).size).toList == [69, 78, 68, 13, 10]) = true ∧ ((mkS (Y ++ Z)).toList == ((mkS X).extract 0 m ++ mkS Z).toList) = true := by
  have hs : (mkS X).size = Y.length + 5 := by rw [mkS_size, hX, List.length_append]; rfl
  have hm : Y.length + 5 ≤ 9223372036854775807 := by rw [← hs, mkS_size]; exact hl
  refine ⟨Y.length, by rw [hs]; unfold wrap64; omega, by rw [hs]; omega, ?_, ?_⟩
  · rw [hs, Lib.toList_data, ByteArray.data_extract, beq_iff_eq, Array.toList_extract, mkS_list, hX, List.extract_eq_take_drop]
    simp [tailL, endL]
  · rw [beq_iff_eq, mkS_toList, Lib.toList_data, ByteArray.data_append, Array.toList_append, ByteArray.data_extract, Array.toList_extract, mkS_list, mkS_list, hX, List.extract_eq_take_drop]
    simp
end Go.Proofs.YtnkfpiccfmdllaaDoor
