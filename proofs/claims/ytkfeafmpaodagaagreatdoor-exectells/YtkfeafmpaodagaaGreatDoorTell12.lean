/- ExecTells' row of commands: what came in, and one more behind it; Few of it. Conditions: what came in weighs at most what a machine reaches. -/
import Derived.Test.YtkfeafmpaodagaaGreatDoorG53Joined
import Derived.Test.YtkfeafmpaodagaaGreatDoorG12Joined
import Derived.Test.YtkfeafmpaodagaaGreatDoorRegionHT
import Derived.Great.BuildSlice
import Derived.SizedLaws
namespace Go.Proofs.YtkfeafmpaodagaaGreatDoor
set_option linter.unusedVariables false
open Go.RowKit Go.ChangeShapes Go.WideShapes Go.Deep Go.Shelf Go.Sort

theorem ops_len {H : Type} {enc : TypeId × Value → H} {w : World} {base : Nat} {spare : Nat → Bool} {held : Bool} {fuel : Nat} {a : Option Addr} {len cap : Nat} {x : DataW H × List MemPlace}
    (h : DataW.trod enc Tryz.prog w base spare held fuel 23 [.slice a len cap] = some x) (hw : ∀ m ∈ x.1.weights Tryz.prog 23, m ≤ reachBytes) : len ≤ 1099511627744 ∧ (a = none → len = 0 ∧ cap = 0) := by
  have cb : Tryz.prog.bytesOf 37 = 128 := by kernel_rfl
  rcases open_slice Tryz.underlying23 h with ⟨hcs, _⟩ | ⟨ad, l, c, m, n, D, Pl, hcs, _, hl, hm, hmm, hx, hel⟩
  · cases hcs
    exact ⟨Nat.zero_le _, fun _ => ⟨rfl, rfl⟩⟩
  · cases hcs
    refine ⟨?_, fun e => by cases e⟩
    have h5 := hw (((List.range len).map D).length * Tryz.prog.bytesOf 37 + ((List.range (m - len)).map fun j => D (len + j)).length * Tryz.prog.bytesOf 37) (by
      rw [hx]
      simp only [DataW.weights, Tryz.underlying23]
      rw [← Nat.add_mul]
      exact List.mem_cons_self ..)
    have h6 : ((List.range len).map D).length = len := by simp
    rw [h6, cb] at h5
    have h7 : reachBytes = 140737488351232 := rfl
    omega
theorem info_op12 : (Tryz.prog.info? 37).map (fun i => (i.size, i.bytes)) = some (14, 128) := by kernel_rfl
def opsV (os : List Op12) : List Value := (os.map Op12.cells).flatten
theorem cells_len (o : Op12) : o.cells.length = 14 := rfl
theorem opsV_len (os : List Op12) : (opsV os).length = os.length * 14 := by
  unfold opsV
  induction os with
  | nil => rfl
  | cons o os ih => rw [List.map_cons, List.flatten_cons, List.length_append, ih, cells_len, List.length_cons]; omega
theorem opsV_app (os : List Op12) (o : Op12) : opsV (os ++ [o]) = opsV os ++ o.cells := by simp [opsV]
theorem op_one (o : Op12) : ∀ u ∈ o.cells, u.oneCell' = true := by
  intro u hu
  unfold Op12.cells cmC enC at hu
  simp at hu
  rcases hu with rfl | rfl | rfl | rfl | rfl | rfl | rfl | rfl | rfl | rfl | rfl | rfl | rfl | rfl <;> rfl
theorem opsV_one (os : List Op12) : ∀ u ∈ opsV os, u.oneCell' = true := by
  intro u hu
  obtain ⟨l, hl, hul⟩ := List.mem_flatten.1 hu
  obtain ⟨o, _, rfl⟩ := List.mem_map.1 hl
  exact op_one o u hul
/-- A place in a row of rows. -/
theorem opsV_at : ∀ (os : List Op12) (j : Nat) (v : Value), (opsV os)[j]? = some v → ∃ o, os[j / 14]? = some o ∧ o.cells[j % 14]? = some v
  | [], j, v, h => by simp [opsV] at h
  | o :: os, j, v, h => by
    have e : opsV (o :: os) = o.cells ++ opsV os := rfl
    rw [e] at h
    by_cases hj : j < 14
    · rw [List.getElem?_append_left (by rw [cells_len]; exact hj)] at h
      exact ⟨o, by rw [Nat.div_eq_of_lt hj]; rfl, by rw [Nat.mod_eq_of_lt hj]; exact h⟩
    · rw [List.getElem?_append_right (by rw [cells_len]; omega), cells_len] at h
      obtain ⟨p, h1, h2⟩ := opsV_at os (j - 14) v h
      refine ⟨p, ?_, ?_⟩
      · rw [show j / 14 = (j - 14) / 14 + 1 by omega]
        exact h1
      · rw [show j % 14 = (j - 14) % 14 by omega]
        exact h2
theorem opsV_get {os : List Op12} {i : Nat} {o : Op12} (h : os[i]? = some o) (j : Nat) (hj : j < 14) : (opsV os)[i * 14 + j]? = o.cells[j]? := by
  have hl : i * 14 + j < (opsV os).length := by
    have := (List.getElem?_eq_some_iff.1 h).1
    rw [opsV_len]
    omega
  obtain ⟨p, h1, h2⟩ := opsV_at os (i * 14 + j) _ (List.getElem?_eq_getElem hl)
  rw [show (i * 14 + j) / 14 = i by omega, h] at h1
  rw [show (i * 14 + j) % 14 = j by omega] at h2
  cases h1
  rw [h2]
  exact List.getElem?_eq_getElem hl
theorem rows_own {w : World} {base : Nat} {v : Value} {os : List Op12} (h : w.ownsRow base 37 14 v os.length (opsV os)) : ∃ a c, v = .slice a os.length c ∧ RowsAt w a os.length c 14 (os.map Op12.cells) := by
  obtain ⟨_, ⟨rfl, h0⟩ | ⟨g, cap, cur, rfl, _, hg, hc, _, _, ht⟩⟩ := h
  · have : os = [] := List.eq_nil_of_length_eq_zero h0
    subst this
    exact ⟨none, 0, rfl, .inl ⟨rfl, rfl⟩⟩
  · refine ⟨_, cap, rfl, .inr ⟨g, 0, rfl, hc, by simp, (Array.getElem?_eq_some_iff.1 hg).1, fun i j x u hx hu => ?_⟩⟩
    rw [List.getElem?_map] at hx
    obtain ⟨o, ho, rfl⟩ := Option.map_eq_some_iff.1 hx
    have hj : j < 14 := (List.getElem?_eq_some_iff.1 hu).1
    have h1 := opsV_get ho j hj
    rw [hu, ← ht] at h1
    rw [List.getElem?_take] at h1
    split at h1
    · unfold World.cell?
      rw [hg]
      show cur[0 + i * 14 + j]? = _
      rw [Nat.zero_add, ← Array.getElem?_toList]
      exact h1
    · cases h1
def o0 : Op12 := ⟨⟨0, ⟨#[]⟩, [], 0, 0, 0, 0, 0, false, false⟩, none, 0, ⟨0, 0, 0, 0⟩⟩
/-- All of what came in, appended to nothing. -/
theorem run_append_ops (w : World) (base : Nat) (ty : TypeId) {a : Option Addr} {len cap : Nat} {os : List Op12} (ho : RowsAt w a len cap 14 (os.map Op12.cells)) (hlen : os.length = len) (hl : len ≤ 1099511627744) (hnil : a = none → len = 0 ∧ cap = 0) (hb : base ≤ w.heap.size) :
    ∃ v' w', (Builtin.append_ #[23, 23] ty #[.slice none 0 0, .slice a len cap]).run Tryz.prog w = .ok v' w' ∧ w'.ownsRow base 37 14 v' os.length (opsV os) ∧ w.grownBy w' none := by
  have hz : (Tryz.prog.info? 37).map (fun i => (i.zero, i.size, i.bytes)) = some (some (.agg (o0.cells).toArray), 14, 128) := by kernel_rfl
  obtain ⟨i0, hi, hz0, hz1, hz2⟩ := info_parts hz
  cases a with
  | none =>
    obtain ⟨rfl, rfl⟩ := hnil rfl
    have : os = [] := List.eq_nil_of_length_eq_zero hlen
    subst this
    exact ⟨_, w, run_append_owned_none w base 23 ty 37 i0 14 Tryz.underlying23 hi _ 0 [] (World.ownsRow_nil _ _ _ _), World.ownsRow_nil _ _ _ _, gr_refl _ _⟩
  | some ad =>
    have hnews : ∀ (j : Nat) (u : Value), (opsV os)[j]? = some u → w.cell? (ad.add j) = some u := by
      intro j u hu
      obtain ⟨o, h1, h2⟩ := opsV_at os j u hu
      rcases ho with ⟨_, h0⟩ | ⟨b, off, e, _, _, _, hc⟩
      · rw [List.map_eq_nil_iff.1 h0] at h1
        simp at h1
      · cases e
        have := hc (j / 14) (j % 14) o.cells u (by rw [List.getElem?_map, h1]; rfl) h2
        rw [show off + j / 14 * 14 + j % 14 = off + j by omega] at this
        rw [add_at]
        exact this
    obtain ⟨v', w', q1, q2, q3, _, q5⟩ := run_append_own_at (P := Tryz.prog) w base 23 ty 37 i0 (.agg (o0.cells).toArray) 14 128 Tryz.underlying23 hi hz0 hz1 hz2 rfl (by decide) (.slice none 0 0) 0 [] (World.ownsRow_nil _ _ _ _) ad len cap (opsV os) (by rw [opsV_len, hlen]) hnews (opsV_one os) (by unfold maxLen; omega) (by omega) hb
    rw [Nat.zero_add, List.nil_append, ← hlen] at q2
    exact ⟨v', w', q1, q2, q3⟩
theorem oper_append_ops (w : World) (d : Nat) {o : Oper} {a : Act} {K : Act → World → Prop} {Q : Exit → Act → World → Prop} (hd : o.dst = some d) (s x : Operand)
    (hop : o.op = .call { callee := .builtin .append, args := #[s, x], argTypes := #[23, 23] }) (base : Nat) {b : Option Addr} {len cap : Nat} {os : List Op12} (hs : a.eval s = .slice none 0 0) (hx : a.eval x = .slice b len cap)
    (ho : RowsAt w b len cap 14 (os.map Op12.cells)) (hlen : os.length = len) (hl : len ≤ 1099511627744) (hnil : b = none → len = 0 ∧ cap = 0) (hb : base ≤ w.heap.size)
    (h : ∀ v' w', w'.ownsRow base 37 14 v' os.length (opsV os) → w.grownBy w' none → K (a.put (some d) v') w') : Oper.wp Tryz.prog o a w K Q := by
  obtain ⟨v', w', hr, h2, h3⟩ := run_append_ops w base o.type ho hlen hl hnil hb
  unfold Oper.wp execOp
  simp only [hop, resolve, invoke, builtin, Sem.run_bind, Sem.run_pure, Result.andThen_ok, List.map_toArray, List.map_cons, List.map_nil, hs, hx, hr]
  show K (a.put o.dst v') w'
  rw [hd]
  exact h v' w' h2 h3
theorem grown_base {w w' w'' : World} {row : Option Nat} (h : w.grownBy w' none) (h' : w'.grownBy w'' row) (hr : ∀ g, row = some g → w.heap.size ≤ g) : w.grownBy w'' none := by
  refine ⟨?_, ?_, ?_, Nat.le_trans h.size h'.size, fun k hk hn => ?_⟩
  · exact h'.1.trans h.1
  · exact h'.2.trans h.2
  · exact h'.3.trans h.3
  · exact (h'.block k (Nat.lt_of_lt_of_le hk h.size) (fun e => by have := hr k e.symm; omega)).trans (h.block k hk hn)
/-- The cells of one call in a box. -/
abbrev HasO (g : Nat) (o : Op12) (w : World) : Prop := w.cell? ⟨g, 0, none⟩ = some (.int .i64 o.cv.op) ∧ w.cell? ⟨g, 1, none⟩ = some (.string o.cv.key) ∧ w.cell? ⟨g, 2, none⟩ = some (.slice o.a o.cv.val.length o.k) ∧ w.cell? ⟨g, 3, none⟩ = some (.int .u32 o.cv.fl) ∧ w.cell? ⟨g, 4, none⟩ = some (.int .i64 o.cv.exp) ∧ w.cell? ⟨g, 5, none⟩ = some (.int .u64 o.cv.cas) ∧ w.cell? ⟨g, 6, none⟩ = some (.int .u64 o.cv.del) ∧ w.cell? ⟨g, 7, none⟩ = some (.int .u64 o.cv.ini) ∧ w.cell? ⟨g, 8, none⟩ = some (.bool o.cv.makes) ∧ w.cell? ⟨g, 9, none⟩ = some (.bool o.cv.sets) ∧ w.cell? ⟨g, 10, none⟩ = some (.int .i64 o.en.now) ∧ w.cell? ⟨g, 11, none⟩ = some (.int .u64 o.en.seq) ∧ w.cell? ⟨g, 12, none⟩ = some (.int .i64 o.en.flush) ∧ w.cell? ⟨g, 13, none⟩ = some (.int .u64 o.en.fseq)
def opA (o : Op12) : Array Value := #[.int .i64 o.cv.op, .string o.cv.key, .slice o.a o.cv.val.length o.k, .int .u32 o.cv.fl, .int .i64 o.cv.exp, .int .u64 o.cv.cas, .int .u64 o.cv.del, .int .u64 o.cv.ini, .bool o.cv.makes, .bool o.cv.sets, .int .i64 o.en.now, .int .u64 o.en.seq, .int .i64 o.en.flush, .int .u64 o.en.fseq]
theorem opA_list (o : Op12) : (opA o).toList = o.cells := rfl
theorem hasO_of {w : World} {g : Nat} {o : Op12} {t : TypeId} {f : Nat × Nat} (h : w.heap[g]? = some (.cells (opA o) t f)) : HasO g o w := by
  simp [HasO, World.cell?, h, opA]
theorem hasO_grown {w w' : World} {g : Nat} {o : Op12} (h : HasO g o w) (hg : w.grownBy w' none) : HasO g o w' := by
  obtain ⟨h0, h1, h2, h3, h4, h5, h6, h7, h8, h9, h10, h11, h12, h13⟩ := h
  exact ⟨cell_gn h0 hg, cell_gn h1 hg, cell_gn h2 hg, cell_gn h3 hg, cell_gn h4 hg, cell_gn h5 hg, cell_gn h6 hg, cell_gn h7 hg, cell_gn h8 hg, cell_gn h9 hg, cell_gn h10 hg, cell_gn h11 hg, cell_gn h12 hg, cell_gn h13 hg⟩
theorem news_of {w : World} {g : Nat} {o : Op12} (h : HasO g o w) : ∀ (j : Nat) (u : Value), o.cells[j]? = some u → w.cell? ((⟨g, 0, none⟩ : Addr).add j) = some u := by
  intro j u hu
  have hj : j < 14 := (List.getElem?_eq_some_iff.1 hu).1
  obtain ⟨h0, h1, h2, h3, h4, h5, h6, h7, h8, h9, h10, h11, h12, h13⟩ := h
  rw [add_at, Nat.zero_add]
  match j, hj with
  | 0, _ => rw [h0]; exact hu
  | 1, _ => rw [h1]; exact hu
  | 2, _ => rw [h2]; exact hu
  | 3, _ => rw [h3]; exact hu
  | 4, _ => rw [h4]; exact hu
  | 5, _ => rw [h5]; exact hu
  | 6, _ => rw [h6]; exact hu
  | 7, _ => rw [h7]; exact hu
  | 8, _ => rw [h8]; exact hu
  | 9, _ => rw [h9]; exact hu
  | 10, _ => rw [h10]; exact hu
  | 11, _ => rw [h11]; exact hu
  | 12, _ => rw [h12]; exact hu
  | 13, _ => rw [h13]; exact hu
theorem hasO_range {w : World} {g : Nat} {o : Op12} (h : HasO g o w) : w.rangeAt g 0 (opA o).toList := fun j v hv => by
  have h1 := news_of h j v hv
  rw [add_at] at h1
  exact h1
theorem hasO_cm {w : World} {g : Nat} {o : Op12} (h : HasO g o w) : w.rangeAt g 0 (cmC o.cv o.a o.k).toList := fun j v hv => by
  have hj : j < 10 := (List.getElem?_eq_some_iff.1 hv).1
  refine hasO_range h j v ?_
  match j, hj with
  | 0, _ | 1, _ | 2, _ | 3, _ | 4, _ | 5, _ | 6, _ | 7, _ | 8, _ | 9, _ => exact hv
theorem hasO_new (w : World) (o : Op12) : HasO w.heap.size o (w.alloc (.cells (opA o) 37)) := hasO_of (World.alloc_heap_new w _)
theorem open_op12 {H : Type} {enc : TypeId × Value → H} {w : World} {base : Nat} {spare : Nat → Bool} {held : Bool} {n : Nat} {cs : Array Value} {z : DataW H × List MemPlace} (hl : cs.size = Tryz.prog.cellsOf 37)
    (h : DataW.trod enc Tryz.prog w base spare held n 37 cs.toList = some z) (hw : ∀ m ∈ z.1.weights Tryz.prog 37, m ≤ reachBytes) : ∃ o : Op12, cs = opA o ∧ o.ok w := by
  have ce : Tryz.prog.cellsOf 37 = 14 := by kernel_rfl
  obtain ⟨o, h1, h2⟩ := op_shapeW (by rw [Array.length_toList, hl, ce]) h hw
  exact ⟨o, Array.toList_inj.1 (h1.trans (opA_list o).symm), h2⟩
/-- The row is made: either order of the first append and of the one more. -/
theorem tells_row {w w1 W w9 : World} {v8 v9 : Value} {os : List Op12} {o : Op12} {R : Part} (H1 : Law w w1 R) (hW : w1.grownBy W none) (hown8 : W.ownsRow w1.heap.size 37 14 v8 os.length (opsV os)) (hl : os.length ≤ 1099511627744) (hall : ∀ p ∈ os, p.ok w) (hok : o.ok w)
    (hown9 : w9.ownsRow w1.heap.size 37 14 v9 (os.length + 1) (opsV os ++ o.cells)) (hg9 : W.grownBy w9 v8.ownBlock) :
    ∃ a9 c9, v9 = .slice a9 (os.length + 1) c9 ∧ OpsAt w9 a9 (os.length + 1) c9 (os ++ [o]) ∧ w1.grownBy w9 none := by
  have hg : w1.grownBy w9 none := grown_base hW hg9 fun g e => (own_at hown8 e).1
  have hB : Below w.heap.size w w9 := (H1.step hg).below
  have e : (os ++ [o]).length = os.length + 1 := by simp
  have h9 : w9.ownsRow w1.heap.size 37 14 v9 (os ++ [o]).length (opsV (os ++ [o])) := by rw [opsV_app, e]; exact hown9
  obtain ⟨a9, c9, rfl, hR⟩ := rows_own h9
  rw [e] at hR ⊢
  refine ⟨a9, c9, rfl, ⟨⟨hR, fun p hp => ?_⟩, by omega⟩, hg⟩
  rcases List.mem_append.1 hp with hp | hp
  · exact (hall p hp).on hB
  · rw [List.mem_singleton.1 hp]
    exact hok.on hB
end Go.Proofs.YtkfeafmpaodagaaGreatDoor
