/- A request of package api that came in, opened: its commands, its form, its texts. Conditions: none. -/
import Derived.Test.YtaafkefgpgoepaaStepC
import Derived.Test.YtaafkefgpgoepaaRowsOpen
import Derived.Deep.Slices
namespace Go.Proofs.Ytaafkefgpgoepaa
set_option linter.unusedVariables false
open Go.RowKit Go.ChangeShapes Go.WideShapes Go.Deep

theorem u32_wf {a : Int} (h : (Lit.int .u32 a).wf = true) : 0 ≤ a ∧ a < 4294967296 := by
  have e1 : IntKind.u32.min = 0 := rfl
  have e2 : IntKind.u32.max = 4294967295 := rfl
  simp [Lit.wf, e1, e2] at h
  omega
theorem ints_from {l : List Int} (h : ∀ z ∈ l, (Lit.int .u8 z).wf = true) : ∃ u : List UInt8, l = ints u := by
  refine ⟨l.map fun z => UInt8.ofNat z.toNat, ?_⟩
  unfold ints
  rw [List.map_map]
  conv => lhs; rw [← List.map_id l]
  apply List.map_congr_left
  intro z hz
  have h1 := u8_wf (h z hz)
  simp
  omega
section
variable {H : Type} {enc : TypeId × Value → H} {w : World} {base : Nat} {spare : Nat → Bool} {held : Bool} {n : Nat}
theorem open_bu {v : Value} {z : DataW H × List MemPlace} (h : DataW.trod enc Try.prog w base spare held n 32 [v] = some z) : ∃ (a : Option Addr) (c : Nat) (u : List UInt8), v = .slice a u.length c ∧ Bu w a u.length c u := by
  rcases open_ints Try.underlying32 Try.underlying5 (by kernel_rfl) h with ⟨hc, _⟩ | ⟨ad, l, c, zs, hc, _, hl, hm, hz, _, hcell, hwf⟩
  · simp at hc
    exact ⟨none, 0, [], hc, rfl, .inl ⟨rfl, rfl, fun _ => rfl⟩, Nat.le_refl _, Nat.zero_le _⟩
  · simp at hc
    have hzl : l ≤ zs.length := by rw [hz]; split <;> omega
    obtain ⟨u, hu⟩ := ints_from (l := zs.take l) fun z hz => hwf z (List.mem_of_mem_take hz)
    have hul : u.length = l := by rw [← ints_len, ← hu, List.length_take]; omega
    refine ⟨some ad, c, u, by rw [hul]; exact hc, rfl, ?_, by rw [hul]; exact hl, hm⟩
    rw [← hu, hul]
    by_cases h0 : l = 0
    · exact .inl ⟨h0, by rw [h0]; rfl, fun e => by cases e⟩
    · have c0 := hcell 0 (by omega)
      have hspot : ad.spot = none := by simpa [Addr.add] using World.cell?_spot c0
      obtain ⟨b, off, spot⟩ := ad
      simp only at hspot
      subst hspot
      refine .inr ⟨b, off, rfl, by omega, hl, by rw [List.length_take]; omega, fun z hz' => ?_, fun i hi => ?_, ?_⟩
      · exact u8_wf (hwf z (List.mem_of_mem_take hz'))
      · have h1 := hcell i (by omega)
        rw [add_at] at h1
        rw [h1]
        simp [hi]
      · rw [add_at] at c0
        exact block_lt_of_cell c0
/-- A slice that came in: as long as its room lets it, and that within what a machine has. -/
theorem open_fits {t e : TypeId} {v : Value} {z : DataW H × List MemPlace} (hu : Try.prog.underlying t = some (.slice e)) (h : DataW.trod enc Try.prog w base spare held n t [v] = some z) : ∃ a l c, v = .slice a l c ∧ l ≤ c ∧ c ≤ maxLen := by
  rcases open_slice hu h with ⟨hcs, _⟩ | ⟨ad, l, c, m, n', D, Pl, hcs, _, hl, hm, _⟩
  · simp at hcs
    exact ⟨none, 0, 0, hcs, Nat.le_refl _, Nat.zero_le _⟩
  · simp at hcs
    exact ⟨some ad, l, c, hcs, hl, hm⟩
theorem texts_of : ∀ (xs : List (List Value)), (∀ y ∈ xs, ∃ s : ByteArray, y = [.string s]) → ∃ ss : List ByteArray, xs = ss.map fun s => [Value.string s]
  | [], _ => ⟨[], rfl⟩
  | x :: xs, h => by
    obtain ⟨s, hs⟩ := h x List.mem_cons_self
    obtain ⟨ss, hss⟩ := texts_of xs fun y hy => h y (List.mem_cons_of_mem _ hy)
    exact ⟨s :: ss, by rw [hs, hss]; rfl⟩
theorem open_texts {v : Value} {z : DataW H × List MemPlace} (h : DataW.trod enc Try.prog w base spare held n 24 [v] = some z) : ∃ (a : Option Addr) (c : Nat) (ss : List ByteArray), v = .slice a ss.length c ∧ Su w a ss.length c ss := by
  obtain ⟨a, l, c, rfl, hl, hm⟩ := open_fits Try.underlying24 h
  obtain ⟨xs, hr, hy⟩ := open_rows Try.underlying24 (size := 1) (by kernel_rfl) (by decide) h
  obtain ⟨ss, rfl⟩ := texts_of xs fun y hyy => by
    obtain ⟨h1, k, z, hz⟩ := hy y hyy
    match y, h1 with
    | [v], _ =>
      obtain ⟨s, e, _, _⟩ := DataW.trod_string Try.underlying9 hz
      simp at e
      exact ⟨s, by rw [e]⟩
  have hlen : ss.length = l := by have := hr.len_; rwa [List.length_map] at this
  refine ⟨a, c, ss, by rw [hlen], rfl, by rw [hlen]; exact hl, hm, ?_⟩
  rw [hlen]
  by_cases h0 : l = 0
  · exact .inl h0
  · rcases hr with ⟨h1, _⟩ | ⟨b, off, h1, _, _, hb, hc⟩
    · exact absurd h1 h0
    · refine .inr ⟨b, off, h1, hb, fun i x hi => ?_⟩
      have := hc i 0 [.string x] (.string x) (by rw [List.getElem?_map, hi]; rfl) rfl
      rwa [Nat.mul_one, Nat.add_zero] at this
set_option maxRecDepth 100000 in
theorem cmd_open {y : List Value} {z : DataW H × List MemPlace} (hl : y.length = 10) (h : DataW.trod enc Try.prog w base spare held n 48 y = some z) : ∃ (c : Cv) (a : Option Addr) (k : Nat), y = (cmC c a k).toList ∧ Bu w a c.val.length k c.val := by
  have ci : Try.prog.cellsOf 3 = 1 := by kernel_rfl
  have cu : Try.prog.cellsOf 37 = 1 := by kernel_rfl
  have c3 : Try.prog.cellsOf 23 = 1 := by kernel_rfl
  have cb : Try.prog.cellsOf 4 = 1 := by kernel_rfl
  have ct : Try.prog.cellsOf 9 = 1 := by kernel_rfl
  have cl : Try.prog.cellsOf 32 = 1 := by kernel_rfl
  obtain ⟨xs, m, _, hz, _, hlen, hf⟩ := DataW.trod_struct Try.underlying48 h
  match y, hl with
  | [v0, v1, v2, v3, v4, v5, v6, v7, v8, v9], _ =>
    match xs, hlen, hf with
    | [y0, y1, y2, y3, y4, y5, y6, y7, y8, y9], _, hf =>
      have g0 := hf 0 _ rfl
      have g1 := hf 1 _ rfl
      have g2 := hf 2 _ rfl
      have g3 := hf 3 _ rfl
      have g4 := hf 4 _ rfl
      have g5 := hf 5 _ rfl
      have g6 := hf 6 _ rfl
      have g7 := hf 7 _ rfl
      have g8 := hf 8 _ rfl
      have g9 := hf 9 _ rfl
      simp [ci, cu, c3, cb, ct, cl] at g0 g1 g2 g3 g4 g5 g6 g7 g8 g9
      obtain ⟨k0, e0, _, w0⟩ := DataW.trod_int Try.underlying3 g0
      obtain ⟨k1, e1, x1, w1⟩ := DataW.trod_string Try.underlying9 g1
      obtain ⟨a2, c2, u2, e2, b2⟩ := open_bu g2
      obtain ⟨k3, e3, _, w3⟩ := DataW.trod_int Try.underlying23 g3
      obtain ⟨k4, e4, _, w4⟩ := DataW.trod_int Try.underlying3 g4
      obtain ⟨k5, e5, _, w5⟩ := DataW.trod_int Try.underlying37 g5
      obtain ⟨k6, e6, _, w6⟩ := DataW.trod_int Try.underlying37 g6
      obtain ⟨k7, e7, _, w7⟩ := DataW.trod_int Try.underlying37 g7
      obtain ⟨k8, e8, _⟩ := DataW.trod_bool Try.underlying4 g8
      obtain ⟨k9, e9, _⟩ := DataW.trod_bool Try.underlying4 g9
      simp at e0 e1 e3 e4 e5 e6 e7 e8 e9
      subst e0 e1 e2 e3 e4 e5 e6 e7 e8 e9
      exact ⟨⟨k0, k1, u2, k3, k4, k5, k6, k7, k8, k9⟩, a2, c2, rfl, b2⟩
theorem cmds_of {w : World} : ∀ (xs : List (List Value)), (∀ y ∈ xs, ∃ (c : Cv) (a : Option Addr) (k : Nat), y = (cmC c a k).toList ∧ Bu w a c.val.length k c.val) → ∃ cs : List Cv, cs.length = xs.length ∧ ∀ (i : Nat) (c : Cv), cs[i]? = some c → ∃ a k, xs[i]? = some (cmC c a k).toList ∧ Bu w a c.val.length k c.val
  | [], _ => ⟨[], rfl, fun i c h => by simp at h⟩
  | x :: xs, h => by
    obtain ⟨c, a, k, hx, hb⟩ := h x List.mem_cons_self
    obtain ⟨cs, hl, hcs⟩ := cmds_of xs fun y hy => h y (List.mem_cons_of_mem _ hy)
    refine ⟨c :: cs, by simp [hl], fun i d hi => ?_⟩
    cases i with
    | zero =>
      obtain rfl : c = d := by simpa using hi
      exact ⟨a, k, by rw [hx]; rfl, hb⟩
    | succ i => exact hcs i d (by simpa using hi)
theorem open_cmds {v : Value} {z : DataW H × List MemPlace} (h : DataW.trod enc Try.prog w base spare held n 22 [v] = some z) : ∃ (a : Option Addr) (c : Nat) (cs : List Cv), v = .slice a cs.length c ∧ Cu w a cs.length c cs := by
  obtain ⟨a, l, c, rfl, hl, hm⟩ := open_fits Try.underlying22 h
  obtain ⟨xs, hr, hy⟩ := open_rows Try.underlying22 (size := 10) (by kernel_rfl) (by decide) h
  obtain ⟨cs, hcl, hcs⟩ := cmds_of (w := w) xs fun y hyy => by
    obtain ⟨h1, k, z, hz⟩ := hy y hyy
    exact cmd_open h1 hz
  have hlen : cs.length = l := by rw [hcl]; exact hr.len_
  refine ⟨a, c, cs, by rw [hlen], rfl, by rw [hlen]; exact hl, hm, ?_⟩
  rw [hlen]
  by_cases h0 : l = 0
  · exact .inl h0
  · rcases hr with ⟨h1, _⟩ | ⟨b, off, h1, _, _, hb, hc⟩
    · exact absurd h1 h0
    · refine .inr ⟨b, off, h1, hb, fun i x hi => ?_⟩
      obtain ⟨va, vc, hx, hv⟩ := hcs i x hi
      exact ⟨va, vc, fun j u hu => hc i j _ u hx hu, hv⟩
set_option maxRecDepth 100000 in
theorem form_open4 {y : List Value} {z : DataW H × List MemPlace} (hl : y.length = 10) (h : DataW.trod enc Try.prog w base spare held n 26 y = some z) : ∃ (f : Fv) (ta : Option Addr) (tc : Nat) (ka : Option Addr) (kc : Nat), y = (fmC f ta tc ka kc).toList ∧ (0 ≤ f.opq ∧ f.opq < 4294967296) ∧ Su w ta f.toks.length tc f.toks ∧ Su w ka f.keys.length kc f.keys := by
  have ci : Try.prog.cellsOf 3 = 1 := by kernel_rfl
  have c3 : Try.prog.cellsOf 23 = 1 := by kernel_rfl
  have cb : Try.prog.cellsOf 4 = 1 := by kernel_rfl
  have ct : Try.prog.cellsOf 9 = 1 := by kernel_rfl
  have cl : Try.prog.cellsOf 24 = 1 := by kernel_rfl
  obtain ⟨xs, m, _, hz, _, hlen, hf⟩ := DataW.trod_struct Try.underlying26 h
  match y, hl with
  | [v0, v1, v2, v3, v4, v5, v6, v7, v8, v9], _ =>
    match xs, hlen, hf with
    | [y0, y1, y2, y3, y4, y5, y6, y7, y8, y9], _, hf =>
      have g0 := hf 0 _ rfl
      have g1 := hf 1 _ rfl
      have g2 := hf 2 _ rfl
      have g3 := hf 3 _ rfl
      have g4 := hf 4 _ rfl
      have g5 := hf 5 _ rfl
      have g6 := hf 6 _ rfl
      have g7 := hf 7 _ rfl
      have g8 := hf 8 _ rfl
      have g9 := hf 9 _ rfl
      simp [ci, c3, cb, ct, cl] at g0 g1 g2 g3 g4 g5 g6 g7 g8 g9
      obtain ⟨k0, e0, _, w0⟩ := DataW.trod_int Try.underlying3 g0
      obtain ⟨k1, e1, x1, w1⟩ := DataW.trod_string Try.underlying9 g1
      obtain ⟨k2, e2, _, w2⟩ := DataW.trod_int Try.underlying3 g2
      obtain ⟨k3, e3, _, w3⟩ := DataW.trod_int Try.underlying23 g3
      obtain ⟨k4, e4, _⟩ := DataW.trod_bool Try.underlying4 g4
      obtain ⟨k5, e5, _⟩ := DataW.trod_bool Try.underlying4 g5
      obtain ⟨k6, e6, x6, w6⟩ := DataW.trod_string Try.underlying9 g6
      obtain ⟨a7, c7, u7, e7, b7⟩ := open_texts g7
      obtain ⟨a8, c8, u8, e8, b8⟩ := open_texts g8
      obtain ⟨k9, e9, _⟩ := DataW.trod_bool Try.underlying4 g9
      simp at e0 e1 e2 e3 e4 e5 e6 e9
      subst e0 e1 e2 e3 e4 e5 e6 e7 e8 e9
      exact ⟨⟨k0, k1, k2, k3, k4, k5, k6, u7, u8, k9⟩, a7, c7, a8, c8, rfl, u32_wf w3, b7, b8⟩
theorem form_open {y : List Value} {z : DataW H × List MemPlace} (hl : y.length = 10) (h : DataW.trod enc Try.prog w base spare held n 26 y = some z) : ∃ (f : Fv) (ta : Option Addr) (tc : Nat) (ka : Option Addr) (kc : Nat), y = (fmC f ta tc ka kc).toList ∧ Su w ta f.toks.length tc f.toks ∧ Su w ka f.keys.length kc f.keys := by
  obtain ⟨f, ta, tc, ka, kc, h1, _, h2, h3⟩ := form_open4 hl h
  exact ⟨f, ta, tc, ka, kc, h1, h2, h3⟩
set_option maxRecDepth 100000 in
theorem open_req4 {cs : Array Value} {z : DataW H × List MemPlace} (hl : cs.size = Try.prog.cellsOf 28) (h : DataW.trod enc Try.prog w base spare held n 28 cs.toList = some z) : ∃ (r : Qv) (ca : Option Addr) (cc : Nat) (ta : Option Addr) (tc : Nat) (ka : Option Addr) (kc : Nat), cs = rqC r ca cc ta tc ka kc ∧ QAt w r ca cc ta tc ka kc ∧ 0 ≤ r.form.opq ∧ r.form.opq < 4294967296 := by
  have cC : Try.prog.cellsOf 22 = 1 := by kernel_rfl
  have cF : Try.prog.cellsOf 26 = 10 := by kernel_rfl
  have ce : Try.prog.cellsOf 28 = 11 := by kernel_rfl
  have hl' : cs.toList.length = 11 := by rw [Array.length_toList, hl, ce]
  obtain ⟨xs, m, _, _, _, hlen, hf⟩ := DataW.trod_struct Try.underlying28 h
  obtain ⟨y, hy⟩ : ∃ y, cs.toList = y := ⟨_, rfl⟩
  rw [hy] at hl' hf
  match y, hl' with
  | [v0, v1, v2, v3, v4, v5, v6, v7, v8, v9, v10], _ =>
    match xs, hlen, hf with
    | [y0, y1], _, hf =>
      have g0 := hf 0 _ rfl
      have g1 := hf 1 _ rfl
      simp [cC, cF] at g0 g1
      obtain ⟨ca, cc, c, e0, hc⟩ := open_cmds g0
      obtain ⟨f, ta, tc, ka, kc, e1, ho, ht, hk⟩ := form_open4 rfl g1
      refine ⟨⟨c, f⟩, ca, cc, ta, tc, ka, kc, ?_, ⟨hc, ht, hk⟩, ho⟩
      apply Array.toList_inj.1
      rw [hy, e0]
      show _ = .slice ca c.length cc :: (fmC f ta tc ka kc).toList
      rw [← e1]
theorem open_req {cs : Array Value} {z : DataW H × List MemPlace} (hl : cs.size = Try.prog.cellsOf 28) (h : DataW.trod enc Try.prog w base spare held n 28 cs.toList = some z) : ∃ (r : Qv) (ca : Option Addr) (cc : Nat) (ta : Option Addr) (tc : Nat) (ka : Option Addr) (kc : Nat), cs = rqC r ca cc ta tc ka kc ∧ QAt w r ca cc ta tc ka kc := by
  obtain ⟨r, ca, cc, ta, tc, ka, kc, h1, h2, _⟩ := open_req4 hl h
  exact ⟨r, ca, cc, ta, tc, ka, kc, h1, h2⟩
theorem open_form4 {cs : Array Value} {z : DataW H × List MemPlace} (hl : cs.size = Try.prog.cellsOf 26) (h : DataW.trod enc Try.prog w base spare held n 26 cs.toList = some z) : ∃ (f : Fv) (ta : Option Addr) (tc : Nat) (ka : Option Addr) (kc : Nat), cs = fmC f ta tc ka kc ∧ (0 ≤ f.opq ∧ f.opq < 4294967296) ∧ Su w ta f.toks.length tc f.toks ∧ Su w ka f.keys.length kc f.keys := by
  have ce : Try.prog.cellsOf 26 = 10 := by kernel_rfl
  obtain ⟨f, ta, tc, ka, kc, h1, h2, h3, h4⟩ := form_open4 (by rw [Array.length_toList, hl, ce]) h
  exact ⟨f, ta, tc, ka, kc, Array.toList_inj.1 h1, h2, h3, h4⟩
end
end Go.Proofs.Ytaafkefgpgoepaa
