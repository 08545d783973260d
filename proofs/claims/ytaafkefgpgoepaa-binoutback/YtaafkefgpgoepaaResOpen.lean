/- Results of package api that came in, opened. Conditions: none. -/
import Derived.Test.YtaafkefgpgoepaaReqOpen
import Derived.Test.YtaafkefgpgoepaaResV
namespace Go.Proofs.Ytaafkefgpgoepaa
set_option linter.unusedVariables false
open Go.RowKit Go.ChangeShapes Go.WideShapes Go.Deep

section
variable {H : Type} {enc : TypeId × Value → H} {w : World} {base : Nat} {spare : Nat → Bool} {held : Bool} {n : Nat}
set_option maxRecDepth 100000 in
theorem res_open {y : List Value} {z : DataW H × List MemPlace} (hl : y.length = 9) (h : DataW.trod enc Try.prog w base spare held n 46 y = some z) : ∃ (c : Rv) (a : Option Addr) (k : Nat), y = (rsC c a k).toList ∧ c.ok ∧ Bu w a c.val.length k c.val := by
  have ci : Try.prog.cellsOf 3 = 1 := by kernel_rfl
  have cu : Try.prog.cellsOf 37 = 1 := by kernel_rfl
  have c3 : Try.prog.cellsOf 23 = 1 := by kernel_rfl
  have cb : Try.prog.cellsOf 4 = 1 := by kernel_rfl
  have cl : Try.prog.cellsOf 32 = 1 := by kernel_rfl
  obtain ⟨xs, m, _, hz, _, hlen, hf⟩ := DataW.trod_struct Try.underlying46 h
  match y, hl with
  | [v0, v1, v2, v3, v4, v5, v6, v7, v8], _ =>
    match xs, hlen, hf with
    | [y0, y1, y2, y3, y4, y5, y6, y7, y8], _, hf =>
      have g0 := hf 0 _ rfl
      have g1 := hf 1 _ rfl
      have g2 := hf 2 _ rfl
      have g3 := hf 3 _ rfl
      have g4 := hf 4 _ rfl
      have g5 := hf 5 _ rfl
      have g6 := hf 6 _ rfl
      have g7 := hf 7 _ rfl
      have g8 := hf 8 _ rfl
      simp [ci, cu, c3, cb, cl] at g0 g1 g2 g3 g4 g5 g6 g7 g8
      obtain ⟨k0, e0, _, w0⟩ := DataW.trod_int Try.underlying3 g0
      obtain ⟨a1, c1, u1, e1, b1⟩ := open_bu g1
      obtain ⟨k2, e2, _, w2⟩ := DataW.trod_int Try.underlying23 g2
      obtain ⟨k3, e3, _, w3⟩ := DataW.trod_int Try.underlying37 g3
      obtain ⟨k4, e4, _, w4⟩ := DataW.trod_int Try.underlying3 g4
      obtain ⟨k5, e5, _, w5⟩ := DataW.trod_int Try.underlying37 g5
      obtain ⟨k6, e6, _⟩ := DataW.trod_bool Try.underlying4 g6
      obtain ⟨k7, e7, _⟩ := DataW.trod_bool Try.underlying4 g7
      obtain ⟨k8, e8, _⟩ := DataW.trod_bool Try.underlying4 g8
      simp at e0 e2 e3 e4 e5 e6 e7 e8
      subst e0 e1 e2 e3 e4 e5 e6 e7 e8
      exact ⟨⟨k0, u1, k2, k3, k4, k5, k6, k7, k8⟩, a1, c1, rfl, ⟨(u32_wf w2).1, (u32_wf w2).2, (u64_wf w3).1, (u64_wf w3).2, (u64_wf w5).1, (u64_wf w5).2⟩, b1⟩
theorem ress_of {w : World} : ∀ (xs : List (List Value)), (∀ y ∈ xs, ∃ (c : Rv) (a : Option Addr) (k : Nat), y = (rsC c a k).toList ∧ c.ok ∧ Bu w a c.val.length k c.val) → ∃ cs : List Rv, cs.length = xs.length ∧ (∀ c ∈ cs, c.ok) ∧ ∀ (i : Nat) (c : Rv), cs[i]? = some c → ∃ a k, xs[i]? = some (rsC c a k).toList ∧ Bu w a c.val.length k c.val
  | [], _ => ⟨[], rfl, (fun c h => by cases h), fun i c h => by simp at h⟩
  | x :: xs, h => by
    obtain ⟨c, a, k, hx, hk, hb⟩ := h x List.mem_cons_self
    obtain ⟨cs, hl, ho, hcs⟩ := ress_of xs fun y hy => h y (List.mem_cons_of_mem _ hy)
    refine ⟨c :: cs, by simp [hl], fun d hd => ?_, fun i d hi => ?_⟩
    · rcases List.mem_cons.1 hd with rfl | h2
      · exact hk
      · exact ho d h2
    · cases i with
      | zero =>
        obtain rfl : c = d := by simpa using hi
        exact ⟨a, k, by rw [hx]; rfl, hb⟩
      | succ i => exact hcs i d (by simpa using hi)
theorem open_ress {v : Value} {z : DataW H × List MemPlace} (h : DataW.trod enc Try.prog w base spare held n 29 [v] = some z) : ∃ (a : Option Addr) (c : Nat) (cs : List Rv), v = .slice a cs.length c ∧ Ru w a cs.length c cs := by
  obtain ⟨a, l, c, rfl, hl, hm⟩ := open_fits Try.underlying29 h
  obtain ⟨xs, hr, hy⟩ := open_rows Try.underlying29 (size := 9) (by kernel_rfl) (by decide) h
  obtain ⟨cs, hcl, hok, hcs⟩ := ress_of (w := w) xs fun y hyy => by
    obtain ⟨h1, k, z, hz⟩ := hy y hyy
    exact res_open h1 hz
  have hlen : cs.length = l := by rw [hcl]; exact hr.len_
  refine ⟨a, c, cs, by rw [hlen], rfl, by rw [hlen]; exact hl, hm, hok, ?_⟩
  rw [hlen]
  by_cases h0 : l = 0
  · exact .inl h0
  · rcases hr with ⟨h1, _⟩ | ⟨b, off, h1, _, _, hb, hc⟩
    · exact absurd h1 h0
    · refine .inr ⟨b, off, h1, hb, fun i x hi => ?_⟩
      obtain ⟨va, vc, hx, hv⟩ := hcs i x hi
      exact ⟨va, vc, fun j u hu => hc i j _ u hx hu, hv⟩
theorem open_res {cs : Array Value} {z : DataW H × List MemPlace} (hl : cs.size = Try.prog.cellsOf 46) (h : DataW.trod enc Try.prog w base spare held n 46 cs.toList = some z) : ∃ (x : Rv) (a : Option Addr) (k : Nat), cs = rsC x a k ∧ x.ok ∧ Bu w a x.val.length k x.val := by
  have ce : Try.prog.cellsOf 46 = 9 := by kernel_rfl
  obtain ⟨x, a, k, h1, h2, h3⟩ := res_open (by rw [Array.length_toList, hl, ce]) h
  exact ⟨x, a, k, Array.toList_inj.1 h1, h2, h3⟩
end
end Go.Proofs.Ytaafkefgpgoepaa
