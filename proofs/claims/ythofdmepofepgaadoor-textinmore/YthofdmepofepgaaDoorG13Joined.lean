/- A row of words in memory. Conditions: none. Functions of the draft of package textin: isQuiet, exp, key, and how numbers are kept. Conditions: the listed variables hold what the program's text lays; words of at most 140737488351232 bytes. How package textin reads a word: a key, a time, a number. Conditions: the listed variables hold what the program's text lays; words of at most 140737488351232 bytes. -/
import Derived.Test.YthofdmepofepgaaDoorG03Joined
import Derived.Test.YthofdmepofepgaaDoorG12Joined
import Derived.Test.YthofdmepofepgaaDoorByteKit
namespace Go.Proofs.YthofdmepofepgaaDoor
set_option linter.unusedVariables false
open Go.RowKit

/-- A row of words, in a block of which Q tells. -/
structure Wu (Q : Nat → Prop) (w : World) (a : Option Addr) (len cap : Nat) (ws : List (List UInt8)) : Prop where
  n : ws.length = len
  c : len ≤ cap
  m : cap ≤ maxLen
  nil_ : a = none → cap = 0
  at_ : len = 0 ∨ ∃ b off, a = some ⟨b, off, none⟩ ∧ Q b ∧ b < w.heap.size ∧ ∀ i, ∀ h : i < ws.length, w.cell? ⟨b, off + i, none⟩ = some (.string (mkB ws[i]))
section
variable {Q : Nat → Prop} {w w' : World} {a : Option Addr} {len cap : Nat} {ws : List (List UInt8)}
theorem Wu.on (h : Wu Q w a len cap ws) (hq : ∀ b, Q b → b < w.heap.size → w'.heap[b]? = w.heap[b]?) : Wu Q w' a len cap ws := by
  refine ⟨h.n, h.c, h.m, h.nil_, ?_⟩
  rcases h.at_ with h0 | ⟨b, off, e, hb, hl, hc⟩
  · exact .inl h0
  · have hs := hq b hb hl
    refine .inr ⟨b, off, e, hb, ?_, fun i hi => (World.cell?_of_block hs).trans (hc i hi)⟩
    rcases Nat.lt_or_ge b w'.heap.size with h' | h'
    · exact h'
    · rw [Array.getElem?_eq_none h'] at hs
      rw [Array.getElem?_eq_getElem hl] at hs
      cases hs
theorem Wu.get (h : Wu Q w a len cap ws) {i : Nat} (hi : i < len) : ∃ b off, a = some ⟨b, off, none⟩ ∧ w.cell? ⟨b, off + i, none⟩ = some (.string (mkB (ws[i]'(by rw [h.n]; exact hi)))) := by
  rcases h.at_ with h0 | ⟨b, off, e, hb, hl, hc⟩
  · omega
  · exact ⟨b, off, e, hc i _⟩
/-- 'ws[:j]' -/
theorem Wu.front (h : Wu Q w a len cap ws) {j : Nat} (hj : j ≤ len) : Wu Q w a j cap (ws.take j) := by
  have hc := h.c
  refine ⟨by rw [List.length_take, h.n]; omega, by omega, h.m, h.nil_, ?_⟩
  rcases h.at_ with h0 | ⟨b, off, e, hb, hl, hx⟩
  · exact .inl (by omega)
  · refine .inr ⟨b, off, e, hb, hl, fun i hi => ?_⟩
    rw [List.length_take] at hi
    rw [hx i (by omega), List.getElem_take]
/-- 'ws[1:]' -/
theorem Wu.tail (h : Wu Q w a len cap ws) (h1 : 1 ≤ len) : ∃ a', (∀ W : World, (Instr.sliceAt 26 (.slice a len cap) (some (.int .i64 1)) none none).run Tryd.prog W = .ok (.slice a' (len - 1) (cap - 1)) W) ∧ Wu Q w a' (len - 1) (cap - 1) ws.tail := by
  have hc := h.c
  have hm := h.m
  rcases h.at_ with h0 | ⟨b, off, e, hb, hl, hx⟩
  · omega
  · subst e
    have h2 : (1 : Int) ≤ (len : Int) := by omega
    by_cases e : cap = 1
    · refine ⟨some ⟨b, off, none⟩, fun W => ?_, by rw [List.length_tail, h.n], by omega, by omega, fun e => by (cases e), .inl (by omega)⟩
      subst e
      go_simp
    · refine ⟨some (Addr.add ⟨b, off, none⟩ 1), fun W => ?_, by rw [List.length_tail, h.n], by omega, by omega, fun e => by (cases e), ?_⟩
      · go_simp
      · refine .inr ⟨b, off + 1, by rw [add_at], hb, hl, fun i hi => ?_⟩
        rw [List.length_tail] at hi
        rw [Nat.add_assoc, Nat.add_comm 1 i, hx (i + 1) (by omega)]
        simp
end
theorem own_base {n0 n1 n : Nat} {e : TypeId} {w : World} {v : Value} {xs : List Value} (h : w.ownsRow n0 e 1 v n xs) (hn : n1 ≤ n0) : w.ownsRow n1 e 1 v n xs := ⟨h.1, h.2.imp id fun ⟨g, cp, cur, a1, a2, a3⟩ => ⟨g, cp, cur, a1, Nat.le_trans hn a2, a3⟩⟩
theorem size_mk (l : List UInt8) : (mkB l).size = l.length := by simp [mkB, ByteArray.size]
end Go.Proofs.YthofdmepofepgaaDoor

namespace Go.Proofs.YthofdmepofepgaaDoor
set_option linter.unusedVariables false
open Go.RowKit

section
variable {Q : Nat → Prop} {wB w w' w1 : World} {n0 D : Nat} {d : Dv} {a va : Option Addr} {len cap vc : Nat} {ws : List (List UInt8)} {t : TypeId}
theorem quiet_no {op : Int} (h : op = 0 ∨ op = 1 ∨ op = 15 ∨ op = 16) (ws : List (List UInt8)) (many : Nat) : quietN op ws many = false := by
  unfold quietN mayQ
  simp [h]
theorem quiet_may {op : Int} (h : ¬ (op = 0 ∨ op = 1 ∨ op = 15 ∨ op = 16)) (ws : List (List UInt8)) (many : Nat) : quietN op ws many = (decide (ws.length = many + 1) && decide (ws[many]? = some t_noreply)) := by
  unfold quietN mayQ
  simp [h]
set_option maxRecDepth 100000 in
set_option maxHeartbeats 2000000 in
theorem isQuiet_any {c : Nat} {ka : Option Addr} (hD : w.heap[D]? = some (.cells (drC d ka c va vc) t (0, 0))) (hW : Wu Q w a len cap ws) (many : Nat) (hm : many ≤ 1000000) : Calls Tryd.prog 34 #[.pointer (some ⟨D, 0, none⟩), .slice a len cap, .int .i64 (many : Int)] w fun e w' => e = .returned (.bool (quietN d.op ws many)) ∧ w = w' := by
  have c1 := dr_op hD
  clear hD
  by_cases hop : d.op = 0 ∨ d.op = 1 ∨ d.op = 15 ∨ d.op = 16
  · rw [quiet_no hop]
    rcases hop with h | h | h | h
    all_goals
      rw [h] at c1
      clear h
      go_enter Tryd.func34, Tryd.ntmps34
      go_wp2
      go_ret
      exact ⟨rfl, rfl⟩
  · rw [quiet_may hop]
    obtain ⟨op, ho⟩ : ∃ op, d.op = op := ⟨_, rfl⟩
    rw [ho] at c1 hop
    have o0 : ¬ op = 0 := fun h => hop (.inl h)
    have o1 : ¬ op = 1 := fun h => hop (.inr (.inl h))
    have o2 : ¬ op = 15 := fun h => hop (.inr (.inr (.inl h)))
    have o3 : ¬ op = 16 := fun h => hop (.inr (.inr (.inr h)))
    clear hop ho
    have e1 : wrap64 ((many : Int) + 1) = (many : Int) + 1 := by unfold wrap64; omega
    by_cases hn : len = many + 1
    · obtain ⟨b, off, rfl, hc⟩ := hW.get (i := many) (by omega)
      have hlen := hW.n
      have hlt : many < ws.length := by omega
      rw [hlen, List.getElem?_eq_getElem hlt]
      generalize ws[many] = x at *
      have hli : (len : Int) = (many : Int) + 1 := by omega
      simp only [mkB] at hc
      have e2 : (decide (len = many + 1) && decide (some x = some t_noreply)) = (x == [110, 111, 114, 101, 112, 108, 121]) := by
        rw [decide_eq_true hn, Bool.true_and]
        simp only [Option.some.injEq, t_noreply]
        by_cases hx : x = [110, 111, 114, 101, 112, 108, 121]
        · simp [hx]
        · rw [decide_eq_false hx]; symm; simpa using hx
      rw [e2]
      subst hn
      clear e2 hlen hlt hW hli hm
      go_enter Tryd.func34, Tryd.ntmps34
      go_wp2
      go_ret
      exact ⟨rfl, rfl⟩
    · rw [hW.n, decide_eq_false hn, Bool.false_and]
      have hni : ¬ (len : Int) = (many : Int) + 1 := by omega
      clear hn hm hW
      go_enter Tryd.func34, Tryd.ntmps34
      go_wp2
      go_ret
      exact ⟨rfl, rfl⟩
end
end Go.Proofs.YthofdmepofepgaaDoor

namespace Go.Proofs.YthofdmepofepgaaDoor
set_option linter.unusedVariables false
open Go.RowKit

section
variable {wB w w1 : World} {n0 D : Nat} {d : Dv} {a : Option Addr} {c : Nat} {x : List UInt8}
theorem list_mk (l : List UInt8) : (mkB l).data.toList = l := by simp [mkB]
/-- What a reading does. -/
def ReadEnd (wB : World) (n0 D : Nat) (w : World) (r : Dv × List UInt8) (e : Ending) (w' : World) : Prop := e = .returned (.string (mkB r.2)) ∧ Dr wB n0 D w' r.1 ∧ GD n0 D w w'
theorem read_exp_no (h : sgnB x = false) : readW 1 d x = (d, t_bad) := by
  unfold sgnB at h
  unfold readW
  rw [if_neg (by decide), if_pos rfl]
  cases hs : sgn x with
  | none => rfl
  | some z => rw [hs] at h; cases h
theorem read_exp_yes (h : sgnB x = true) : readW 1 d x = ({ d with exp := sgnV x }, []) := by
  unfold sgnB at h
  unfold readW sgnV
  rw [if_neg (by decide), if_pos rfl]
  cases hs : sgn x with
  | none => rw [hs] at h; cases h
  | some z => rfl
set_option maxRecDepth 100000 in
set_option maxHeartbeats 2000000 in
theorem exp_any (hL : Laid wB) (H : Dr wB n0 D w d) (hx : x.length ≤ 140737488351232) : Calls Tryd.prog 42 #[.pointer (some ⟨D, 0, none⟩), .string (mkB x)] w fun e w' => ReadEnd wB n0 D w (readW 1 d x) e w' := by
  have HS := hide (signed_any (mkB x) (by rw [size_mk]; exact hx) w (H.laid hL))
  rw [list_mk] at HS
  cases hb : sgnB x
  · rw [read_exp_no hb]
    rw [hb] at HS
    have HH := hide H
    clear hb H
    generalize sgnV x = z at *
    go_enter Tryd.func42, Tryd.ntmps42
    go_wp2_with (go_at_call 48; refine HS.out.mono ?_; rintro e w1 ⟨rfl, g1⟩)
    go_ret
    exact ⟨rfl, HH.out.on (gr_of_below g1), GD.of (gr_of_below g1)⟩
  · rw [read_exp_yes hb]
    rw [hb] at HS
    have HH := hide H
    clear hb H
    generalize sgnV x = z at *
    go_enter Tryd.func42, Tryd.ntmps42
    go_wp2_with (go_at_call 48; refine HS.out.mono ?_; rintro e w1 ⟨rfl, g1⟩; have H1 := HH.out.on (gr_of_below g1); obtain ⟨a1, c1, h1, h2⟩ := H1.st; have q1 := dr_exp h1; have q2 := dr_frozen h1 14; obtain ⟨K1, G1⟩ := H1.set (d' := { d with exp := z }) h1 h2 14 (.int .i64 z) rfl rfl (set_exp _ _ _ _ _ _); have HK := hide (And.intro K1 ((GD.of (gr_of_below g1)).trans G1)); clear H1 h1 h2 K1 G1 g1)
    go_ret
    exact ⟨rfl, HK.out⟩
/-- One more key is appended to those of the draft. -/
theorem Dr.push {tmp : Obj} {v' : Value} (H : Dr wB n0 D w d) (h1 : w.heap[D]? = some (.cells (drC d a c none 0) 57 (0, 0))) (h2 : w.ownsRow n0 9 1 (.slice a d.keys.length c) d.keys.length (strL d.keys))
    (hown : w1.ownsRow n0 9 1 v' (d.keys.length + 1) (strL d.keys ++ [.string (mkB x)])) (hg : (w.alloc tmp).grownBy w1 (Value.slice a d.keys.length c).ownBlock) :
    w1.cell? ⟨D, 8, none⟩ = some (.slice a d.keys.length c) ∧ w1.frozen? ⟨D, 8, none⟩ = false ∧ Dr wB n0 D (w1.setCell ⟨D, 8, none⟩ v') { d with keys := d.keys ++ [x] } ∧ GD n0 D w (w1.setCell ⟨D, 8, none⟩ v') := by
  obtain ⟨a', c', rfl⟩ := own_shape hown
  have hlo := H.lo
  have hhi := H.hi
  have hsz := H.sz
  have hsa : (w.alloc tmp).heap.size = w.heap.size + 1 := World.size_alloc _ _
  have hs1 := hg.size
  have hne : some D ≠ (Value.slice a d.keys.length c).ownBlock := fun e => by have := (own_at h2 e.symm).1; omega
  have b1 : w1.heap[D]? = some (.cells (drC d a c none 0) 57 (0, 0)) := (hg.block D (by omega) hne).trans ((Below.heap_alloc _ _ _ (by omega)).trans h1)
  have b2 := heap_setCell_same w1 D 8 _ _ (.slice a' (d.keys.length + 1) c') b1
  have hl : (d.keys ++ [x]).length = d.keys.length + 1 := by simp
  rw [← hl, set_keys] at b2
  have gg : GD n0 D w (w1.setCell ⟨D, 8, none⟩ (.slice a' (d.keys.length + 1) c')) := ⟨hg.1, hg.2, hg.3, by rw [World.size_setCell]; omega, fun k hk hn => by
    rw [heap_setCell_other _ _ _ _ (fun e => hn (.inl e))]
    refine (hg.block k (by omega) fun e => hn (.inr ?_)).trans (Below.heap_alloc _ _ _ hk)
    exact (own_at h2 e.symm).1⟩
  refine ⟨dr_keys b1, dr_frozen b1 8, ⟨Gr.below H.bl gg (fun k hk => by omega), hlo, hhi, by rw [World.size_setCell]; omega, H.val, ⟨a', c', ?_, ?_⟩, fun e => by simp at e⟩, gg⟩
  · rw [← hl]; exact b2
  · show World.ownsRow _ n0 _ 1 (.slice a' (d.keys ++ [x]).length c') (d.keys ++ [x]).length (strL (d.keys ++ [x]))
    rw [hl, strL_app]
    refine own_same hown fun k hk => heap_setCell_other _ _ _ _ fun e => ?_
    have e' : k = D := e
    have := (own_at hown hk).1
    omega
theorem read_key_of {b : Bool} (h : keyN x = b) {g : Bool} (h2 : decide (16 < (d.keys.length : Int) + 1) = g) : readW 0 d x = ({ d with keys := d.keys ++ [x] }, if b = true ∧ g = false then [] else t_bad) := by
  unfold readW
  rw [if_pos rfl, h]
  congr 1
  have : (d.keys.length + 1 ≤ 16) = (g = false) := by
    rw [← h2]
    simp
    omega
  simp only [this]
set_option maxRecDepth 100000 in
set_option maxHeartbeats 2000000 in
theorem tkey_any (H : Dr wB n0 D w d) (hk : d.keys.length ≤ 100000) : Calls Tryd.prog 44 #[.pointer (some ⟨D, 0, none⟩), .string (mkB x)] w fun e w' => ReadEnd wB n0 D w (readW 0 d x) e w' := by
  obtain ⟨a, c, h1, h2⟩ := H.st
  have HK := hide (fun W => key_any (mkB x) W)
  rw [list_mk] at HK
  obtain ⟨i0, hi, hz0, hz1, hz2⟩ := info_parts info_str
  have q1 := dr_keys h1
  have hsz := H.sz
  have HP := hide (fun (tmp : Obj) (w1 : World) (v' : Value) (o : w1.ownsRow n0 9 1 v' (d.keys.length + 1) (strL d.keys ++ [.string (mkB x)])) (g : (w.alloc tmp).grownBy w1 (Value.slice a d.keys.length c).ownBlock) => H.push h1 h2 o g)
  have HO := hide h2
  have HR := hide (fun b (h : keyN x = b) g (h2 : decide (16 < (d.keys.length : Int) + 1) = g) => read_key_of (d := d) h h2)
  clear H h1 h2
  cases hb : keyN x
  · rw [HR.out _ hb _ rfl]
    simp only [Bool.false_eq_true, false_and, if_false]
    rw [hb] at HK
    clear hb HR
    go_enter Tryd.func44, Tryd.ntmps44
    go_wp2_with (first
      | (at_builtin; refine wpList_append_own _ rfl _ _ 26 rfl n0 9 i0 (.string ⟨#[]⟩) 1 16 Tryd.underlying26 hi hz0 hz1 hz2 rfl (by decide) _ _ _ rfl (HO.out.alloc _) ⟨w.heap.size, 0, none⟩ 1 1 [.string (mkB x)] rfl rfl (cell_one_new _ _ _) (by simp [Value.oneCell']) (by unfold maxLen; omega) (by omega) (by simp; omega) ?_; intro v' w1 o1 g1 _; obtain ⟨p1, p2, P3, P4⟩ := HP.out _ _ _ o1 g1; replace P3 := hide P3; replace P4 := hide P4; obtain ⟨a', c', rfl⟩ := own_shape o1; clear o1 g1)
      | (go_at_call 52; refine (HK.out _).mono ?_; rintro e w2 ⟨rfl, rfl⟩))
    go_ret
    exact ⟨rfl, P3.out, P4.out⟩
  · rw [hb] at HK
    by_cases hl : (16 : Int) < (d.keys.length : Int) + 1
    · rw [HR.out _ hb true (by simpa using hl)]
      simp only [Bool.true_eq_false, and_false, if_false]
      clear hb HR
      go_enter Tryd.func44, Tryd.ntmps44
      go_wp2_with (first
        | (at_builtin; refine wpList_append_own _ rfl _ _ 26 rfl n0 9 i0 (.string ⟨#[]⟩) 1 16 Tryd.underlying26 hi hz0 hz1 hz2 rfl (by decide) _ _ _ rfl (HO.out.alloc _) ⟨w.heap.size, 0, none⟩ 1 1 [.string (mkB x)] rfl rfl (cell_one_new _ _ _) (by simp [Value.oneCell']) (by unfold maxLen; omega) (by omega) (by simp; omega) ?_; intro v' w1 o1 g1 _; obtain ⟨p1, p2, P3, P4⟩ := HP.out _ _ _ o1 g1; replace P3 := hide P3; replace P4 := hide P4; obtain ⟨a', c', rfl⟩ := own_shape o1; clear o1 g1)
        | (go_at_call 52; refine (HK.out _).mono ?_; rintro e w2 ⟨rfl, rfl⟩))
      go_ret
      exact ⟨rfl, P3.out, P4.out⟩
    · rw [HR.out _ hb false (by simpa using hl)]
      simp only [and_self, if_true]
      clear hb HR
      go_enter Tryd.func44, Tryd.ntmps44
      go_wp2_with (first
        | (at_builtin; refine wpList_append_own _ rfl _ _ 26 rfl n0 9 i0 (.string ⟨#[]⟩) 1 16 Tryd.underlying26 hi hz0 hz1 hz2 rfl (by decide) _ _ _ rfl (HO.out.alloc _) ⟨w.heap.size, 0, none⟩ 1 1 [.string (mkB x)] rfl rfl (cell_one_new _ _ _) (by simp [Value.oneCell']) (by unfold maxLen; omega) (by omega) (by simp; omega) ?_; intro v' w1 o1 g1 _; obtain ⟨p1, p2, P3, P4⟩ := HP.out _ _ _ o1 g1; replace P3 := hide P3; replace P4 := hide P4; obtain ⟨a', c', rfl⟩ := own_shape o1; clear o1 g1)
        | (go_at_call 52; refine (HK.out _).mono ?_; rintro e w2 ⟨rfl, rfl⟩))
      go_ret
      exact ⟨rfl, P3.out, P4.out⟩
end
end Go.Proofs.YthofdmepofepgaaDoor
