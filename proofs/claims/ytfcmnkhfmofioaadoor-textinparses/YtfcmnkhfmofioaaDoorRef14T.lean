/- The document's own Parse of the text dialect: what its paths share. Conditions: at most 5000 bytes. -/
import Derived.Test.YtfcmnkhfmofioaaDoorRef14S
import Derived.Test.YtfcmnkhfmofioaaDoorG11Joined
import Derived.Test.YtfcmnkhfmofioaaDoorRefWordsB
namespace Go.Proofs.YtfcmnkhfmofioaaDoor
set_option linter.unusedVariables false
set_option linter.unusedSimpArgs false
open Go.RowKit

theorem words_ru {W0 w2 : World} {vv : Value} {x1 : List UInt8} {v : List UInt8} {ws : List (List UInt8)} (o2 : w2.ownsRow W0.heap.size 9 1 vv (wordsB ⟨x1.toArray⟩).length ((wordsB ⟨x1.toArray⟩).map Value.string)) (hw : wordsL x1 = v :: ws) : ∃ b cp, vv = .slice (some ⟨b, 0, none⟩) (ws.length + 1) cp ∧ W0.heap.size ≤ b ∧ Ru w2 b 0 (ws.length + 1) cp (v :: ws) := by
  have ew : wordsB ⟨x1.toArray⟩ = (wordsL x1).map mkB := by rw [wordsB_L]
  rw [ew, List.length_map, List.map_map, hw] at o2
  obtain ⟨wa, wc, rfl⟩ := own_shape o2
  obtain ⟨g, cp, e⟩ := own_form o2 (by simp)
  cases e
  refine ⟨g, wc, rfl, (own_at o2 rfl).1, rfl, (own_cap o2).1, (own_cap o2).2, (own_at o2 rfl).2.1, fun i hi => ?_⟩
  rw [Nat.zero_add, o2.cellAt i (by rw [Nat.mul_one]; exact hi), List.getElem?_map, List.getElem?_eq_getElem hi]
  rfl
theorem words_rn {W0 w2 : World} {vv : Value} {x1 : List UInt8} {v : List UInt8} {ws : List (List UInt8)} {n : Nat} (o2 : w2.ownsRow W0.heap.size 9 1 vv (wordsB ⟨x1.toArray⟩).length ((wordsB ⟨x1.toArray⟩).map Value.string)) (hw : wordsL x1 = v :: ws) (hn : n = ws.length + 1) : ∃ b cp, vv = .slice (some ⟨b, 0, none⟩) n cp ∧ W0.heap.size ≤ b ∧ Ru w2 b 0 n cp (v :: ws) := by
  subst hn
  exact words_ru o2 hw
/-- No line that asks, and neither version nor quit. -/
structure NoAsk (v : List UInt8) : Prop where
  get_ : (v == vb_get) = false
  gets_ : (v == vb_gets) = false
  gat_ : (v == vb_gat) = false
  gats_ : (v == vb_gats) = false
  version_ : (v == vb_version) = false
  quit_ : (v == vb_quit) = false
theorem words_no {W0 w2 : World} {vv : Value} {x1 : List UInt8} (o2 : w2.ownsRow W0.heap.size 9 1 vv (wordsB ⟨x1.toArray⟩).length ((wordsB ⟨x1.toArray⟩).map Value.string)) (hw : wordsL x1 = []) : ∃ wa wc, vv = .slice wa 0 wc := by
  have ew : wordsB ⟨x1.toArray⟩ = (wordsL x1).map mkB := by rw [wordsB_L]
  rw [ew, List.length_map, List.map_map, hw] at o2
  obtain ⟨wa, wc, rfl⟩ := own_shape o2
  exact ⟨wa, wc, rfl⟩
/-- What a function of a line answers is what is parsed. -/
theorem rend_parse {w W0 w2 w3 : World} {b : Nat} {s : Sv} {e : Ending} (B : BegS w W0) (hb : W0.heap.size ≤ b) (hl : b < w2.heap.size) (g2 : W0.grownBy w2 none) (R : REnd b s w2 e w3) : ∃ ca cc ta tc ka kc, e = .returned (.agg (stC s ca cc ta tc ka kc)) ∧ w3.heap[w.heap.size]? = some (.cells zeroSt 34 (0, 0)) ∧
    (w3.setRow w.heap.size (stC s ca cc ta tc ka kc)).heap[w.heap.size]? = some (.cells (stC s ca cc ta tc ka kc) 34 (0, 0)) ∧ ParseEnd s w (.returned (.agg (stC s ca cc ta tc ka kc))) (w3.setRow w.heap.size (stC s ca cc ta tc ka kc)) := by
  obtain ⟨ca, cc, ta, tc, ka, kc, rfl, hq, g3⟩ := R
  have z0 := B.z
  have g := gr_trans g2 g3
  have hr := (g.block w.heap.size (by omega) (by simp)).trans B.res
  have gz := g2.size
  refine ⟨ca, cc, ta, tc, ka, kc, rfl, hr, setRow_heap w3 _ _ _ _ _ hr, ca, cc, ta, tc, ka, kc, rfl, fun W' hw hz => ?_, ?_⟩
  · refine hq W' (fun k hk hl => ?_) (by rw [size_setRow] at hz; exact hz)
    exact (hw k (by rcases hk with rfl | hk <;> omega) (by rw [size_setRow]; exact hl)).trans (setRow_other w3 _ k _ (by rcases hk with rfl | hk <;> omega))
  · have g4 := gr_trans B.gr g
    exact ⟨g4.os, g4.tape, g4.output, by rw [size_setRow]; exact g4.size, fun k hk hn => (setRow_other w3 _ k _ (by omega)).trans (g4.block k hk hn)⟩
theorem bare_parse {w W0 w3 : World} {s : Sv} (B : BegS w W0) (hs : s.req = noQ) (g : W0.grownBy w3 none) : w3.heap[w.heap.size]? = some (.cells zeroSt 34 (0, 0)) ∧ (w3.setRow w.heap.size (stC s none 0 none 0 none 0)).heap[w.heap.size]? = some (.cells (stC s none 0 none 0 none 0) 34 (0, 0)) ∧ ParseEnd s w (.returned (.agg (stC s none 0 none 0 none 0))) (w3.setRow w.heap.size (stC s none 0 none 0 none 0)) := by
  have z0 := B.z
  have hr := (g.block w.heap.size (by omega) (by simp)).trans B.res
  exact ⟨hr, pbare_end hs hr (gr_trans B.gr g)⟩
theorem rop_noverb {v : List UInt8} (h : NoVerb v) : ropN v = -1 := by
  have h_set : ¬ v = vb_set := by simpa using h.set_
  have h_cas : ¬ v = vb_cas := by simpa using h.cas_
  have h_add : ¬ v = vb_add := by simpa using h.add_
  have h_replace : ¬ v = vb_replace := by simpa using h.replace_
  have h_append : ¬ v = vb_append := by simpa using h.append_
  have h_prepend : ¬ v = vb_prepend := by simpa using h.prepend_
  unfold ropN
  simp only [h_set, h_cas, h_add, h_replace, h_append, h_prepend, or_self, if_false]
theorem slice_til {b n m cap : Nat} (hm : m < n) (hc : n ≤ cap) (W : World) : (Instr.sliceAt 27 (.slice (some ⟨b, 0, none⟩) n cap) none (some (.int .i64 (m : Int))) none).run Tryd.prog W = .ok (.slice (some ⟨b, 0, none⟩) m cap) W := by
  have h1 : (m : Int) ≤ (cap : Int) := by omega
  have h0 : ¬ (m : Int) < 0 := by omega
  go_simp
theorem last_wrap {n m : Nat} (h : n = m + 1) (hn : n ≤ 10000) : wrap64 ((n : Int) - 1) = (m : Int) := by subst h; unfold wrap64; omega
theorem last_lt {n m : Nat} (h : n = m + 1) : (m : Int) < (n : Int) := by omega
theorem many_small (v : List UInt8) : 0 ≤ rmanyN v ∧ rmanyN v ≤ 6 := by
  unfold rmanyN
  repeat' split
  all_goals exact ⟨by decide, by decide⟩
theorem many_wrap (v : List UInt8) : wrap64 (rmanyN v + 1) = rmanyN v + 1 := by
  have := many_small v
  unfold wrap64
  omega
theorem words_few {x1 : List UInt8} {v : List UInt8} {ws : List (List UInt8)} (hx : x1.length ≤ 2048) (hw : wordsL x1 = v :: ws) : ws.length + 1 ≤ 5000 ∧ ∀ y ∈ v :: ws, y.length ≤ 5000 := by
  have h1 := wordsL_len x1
  rw [hw] at h1
  refine ⟨by simp at h1; omega, fun y hy => ?_⟩
  have := wordsL_each x1 y (by rw [hw]; exact hy)
  omega
theorem mk_few {x1 : List UInt8} (hx : x1.length ≤ 2048) : (⟨x1.toArray⟩ : ByteArray).size ≤ 5000 := by
  have := size_mk x1
  unfold mkB at this
  omega
theorem size_up {w w' : World} {b : Nat} (h : b < w.heap.size) (g : w.grownBy w' none) : b < w'.heap.size := Nat.lt_of_lt_of_le h g.size
theorem Ru.til {w : World} {b n cap : Nat} {ws : List (List UInt8)} {y : List UInt8} {m : Nat} (h : Ru w b 0 n cap (ws ++ [y])) (hn : n = m + 1) : Ru w b 0 m cap ws := by
  have hl := h.n
  rw [List.length_append, List.length_singleton] at hl
  have := h.take m (by omega)
  rw [List.take_left' (by omega)] at this
  exact this
theorem Ru.last {w : World} {b n cap : Nat} {ws : List (List UInt8)} {y : List UInt8} {m : Nat} (h : Ru w b 0 n cap (ws ++ [y])) (hn : n = m + 1) : w.cell? ⟨b, m, none⟩ = some (.string (mkB y)) := by
  have hl := h.n
  rw [List.length_append, List.length_singleton] at hl
  have := h.at0 m (by rw [List.length_append, List.length_singleton]; omega)
  rw [List.getElem_append_right (by omega)] at this
  simpa using this
end Go.Proofs.YtfcmnkhfmofioaaDoor
