/- How package textin reads a word: a key, a time, a number. Conditions: the listed variables hold what the program's text lays; words of at most 140737488351232 bytes. -/
import Derived.Test.YthofdmepofepgaaDoorG14Joined
namespace Go.Proofs.YthofdmepofepgaaDoor
set_option linter.unusedVariables false
open Go.RowKit

section
variable {wB w w1 : World} {n0 D : Nat} {d : Dv} {a : Option Addr} {c : Nat} {x : List UInt8}
theorem list_mk (l : List UInt8) : (mkB l).data.toList = l := by simp [mkB]
/-- What a reading does. -/
def ReadEnd (wB : World) (n0 D : Nat) (w : World) (r : Dv × List UInt8) (e : Ending) (w' : World) : Prop := e = .returned (.string (mkB r.2)) ∧ Dr wB n0 D w' r.1 ∧ GD n0 D w w'
theorem read_exp_no (h : sgnB x = false) : readW 1 d x = (d, t_bad) := by
  unfold sgnB at h
  unfold readW
  rw [if_neg (by decide), if_pos rfl]
  cases hs : sgn x with
  | none => rfl
  | some z => rw [hs] at h; cases h
theorem read_exp_yes (h : sgnB x = true) : readW 1 d x = ({ d with exp := sgnV x }, []) := by
  unfold sgnB at h
  unfold readW sgnV
  rw [if_neg (by decide), if_pos rfl]
  cases hs : sgn x with
  | none => rw [hs] at h; cases h
  | some z => rfl
set_option maxRecDepth 100000 in
set_option maxHeartbeats 2000000 in
theorem exp_any (hL : Laid wB) (H : Dr wB n0 D w d) (hx : x.length ≤ 140737488351232) : Calls Tryd.prog 42 #[.pointer (some ⟨D, 0, none⟩), .string (mkB x)] w fun e w' => ReadEnd wB n0 D w (readW 1 d x) e w' := by
  have HS := hide (signed_any (mkB x) (by rw [size_mk]; exact hx) w (H.laid hL))
  rw [list_mk] at HS
  cases hb : sgnB x
  · rw [read_exp_no hb]
    rw [hb] at HS
    have HH := hide H
    clear hb H
    generalize sgnV x = z at *
    go_enter Tryd.func42, Tryd.ntmps42
    go_wp2_with (go_at_call 48; refine HS.out.mono ?_; rintro e w1 ⟨rfl, g1⟩)
    go_ret
    exact ⟨rfl, HH.out.on (gr_of_below g1), GD.of (gr_of_below g1)⟩
  · rw [read_exp_yes hb]
    rw [hb] at HS
    have HH := hide H
    clear hb H
    generalize sgnV x = z at *
    go_enter Tryd.func42, Tryd.ntmps42
    go_wp2_with (go_at_call 48; refine HS.out.mono ?_; rintro e w1 ⟨rfl, g1⟩; have H1 := HH.out.on (gr_of_below g1); obtain ⟨a1, c1, h1, h2⟩ := H1.st; have q1 := dr_exp h1; have q2 := dr_frozen h1 14; obtain ⟨K1, G1⟩ := H1.set (d' := { d with exp := z }) h1 h2 14 (.int .i64 z) rfl rfl (set_exp _ _ _ _ _ _); have HK := hide (And.intro K1 ((GD.of (gr_of_below g1)).trans G1)); clear H1 h1 h2 K1 G1 g1)
    go_ret
    exact ⟨rfl, HK.out⟩
/-- One more key is appended to those of the draft. -/
theorem Dr.push {tmp : Obj} {v' : Value} (H : Dr wB n0 D w d) (h1 : w.heap[D]? = some (.cells (drC d a c none 0) 57 (0, 0))) (h2 : w.ownsRow n0 9 1 (.slice a d.keys.length c) d.keys.length (strL d.keys))
    (hown : w1.ownsRow n0 9 1 v' (d.keys.length + 1) (strL d.keys ++ [.string (mkB x)])) (hg : (w.alloc tmp).grownBy w1 (Value.slice a d.keys.length c).ownBlock) :
    w1.cell? ⟨D, 8, none⟩ = some (.slice a d.keys.length c) ∧ w1.frozen? ⟨D, 8, none⟩ = false ∧ Dr wB n0 D (w1.setCell ⟨D, 8, none⟩ v') { d with keys := d.keys ++ [x] } ∧ GD n0 D w (w1.setCell ⟨D, 8, none⟩ v') := by
  obtain ⟨a', c', rfl⟩ := own_shape hown
  have hlo := H.lo
  have hhi := H.hi
  have hsz := H.sz
  have hsa : (w.alloc tmp).heap.size = w.heap.size + 1 := World.size_alloc _ _
  have hs1 := hg.size
  have hne : some D ≠ (Value.slice a d.keys.length c).ownBlock := fun e => by have := (own_at h2 e.symm).1; omega
  have b1 : w1.heap[D]? = some (.cells (drC d a c none 0) 57 (0, 0)) := (hg.block D (by omega) hne).trans ((Below.heap_alloc _ _ _ (by omega)).trans h1)
  have b2 := heap_setCell_same w1 D 8 _ _ (.slice a' (d.keys.length + 1) c') b1
  have hl : (d.keys ++ [x]).length = d.keys.length + 1 := by simp
  rw [← hl, set_keys] at b2
  have gg : GD n0 D w (w1.setCell ⟨D, 8, none⟩ (.slice a' (d.keys.length + 1) c')) := ⟨hg.1, hg.2, hg.3, by rw [World.size_setCell]; omega, fun k hk hn => by
    rw [heap_setCell_other _ _ _ _ (fun e => hn (.inl e))]
    refine (hg.block k (by omega) fun e => hn (.inr ?_)).trans (Below.heap_alloc _ _ _ hk)
    exact (own_at h2 e.symm).1⟩
  refine ⟨dr_keys b1, dr_frozen b1 8, ⟨Gr.below H.bl gg (fun k hk => by omega), hlo, hhi, by rw [World.size_setCell]; omega, H.val, ⟨a', c', ?_, ?_⟩, fun e => by simp at e⟩, gg⟩
  · rw [← hl]; exact b2
  · show World.ownsRow _ n0 _ 1 (.slice a' (d.keys ++ [x]).length c') (d.keys ++ [x]).length (strL (d.keys ++ [x]))
    rw [hl, strL_app]
    refine own_same hown fun k hk => heap_setCell_other _ _ _ _ fun e => ?_
    have e' : k = D := e
    have := (own_at hown hk).1
    omega
theorem read_key_of {b : Bool} (h : keyN x = b) {g : Bool} (h2 : decide (16 < (d.keys.length : Int) + 1) = g) : readW 0 d x = ({ d with keys := d.keys ++ [x] }, if b = true ∧ g = false then [] else t_bad) := by
  unfold readW
  rw [if_pos rfl, h]
  congr 1
  have : (d.keys.length + 1 ≤ 16) = (g = false) := by
    rw [← h2]
    simp
    omega
  simp only [this]
set_option maxRecDepth 100000 in
set_option maxHeartbeats 2000000 in
theorem tkey_any (H : Dr wB n0 D w d) (hk : d.keys.length ≤ 100000) : Calls Tryd.prog 44 #[.pointer (some ⟨D, 0, none⟩), .string (mkB x)] w fun e w' => ReadEnd wB n0 D w (readW 0 d x) e w' := by
  obtain ⟨a, c, h1, h2⟩ := H.st
  have HK := hide (fun W => key_any (mkB x) W)
  rw [list_mk] at HK
  obtain ⟨i0, hi, hz0, hz1, hz2⟩ := info_parts info_str
  have q1 := dr_keys h1
  have hsz := H.sz
  have HP := hide (fun (tmp : Obj) (w1 : World) (v' : Value) (o : w1.ownsRow n0 9 1 v' (d.keys.length + 1) (strL d.keys ++ [.string (mkB x)])) (g : (w.alloc tmp).grownBy w1 (Value.slice a d.keys.length c).ownBlock) => H.push h1 h2 o g)
  have HO := hide h2
  have HR := hide (fun b (h : keyN x = b) g (h2 : decide (16 < (d.keys.length : Int) + 1) = g) => read_key_of (d := d) h h2)
  clear H h1 h2
  cases hb : keyN x
  · rw [HR.out _ hb _ rfl]
    simp only [Bool.false_eq_true, false_and, if_false]
    rw [hb] at HK
    clear hb HR
    go_enter Tryd.func44, Tryd.ntmps44
    go_wp2_with (first
      | (at_builtin; refine wpList_append_own _ rfl _ _ 26 rfl n0 9 i0 (.string ⟨#[]⟩) 1 16 Tryd.underlying26 hi hz0 hz1 hz2 rfl (by decide) _ _ _ rfl (HO.out.alloc _) ⟨w.heap.size, 0, none⟩ 1 1 [.string (mkB x)] rfl rfl (cell_one_new _ _ _) (by simp [Value.oneCell']) (by unfold maxLen; omega) (by omega) (by simp; omega) ?_; intro v' w1 o1 g1 _; obtain ⟨p1, p2, P3, P4⟩ := HP.out _ _ _ o1 g1; replace P3 := hide P3; replace P4 := hide P4; obtain ⟨a', c', rfl⟩ := own_shape o1; clear o1 g1)
      | (go_at_call 52; refine (HK.out _).mono ?_; rintro e w2 ⟨rfl, rfl⟩))
    go_ret
    exact ⟨rfl, P3.out, P4.out⟩
  · rw [hb] at HK
    by_cases hl : (16 : Int) < (d.keys.length : Int) + 1
    · rw [HR.out _ hb true (by simpa using hl)]
      simp only [Bool.true_eq_false, and_false, if_false]
      clear hb HR
      go_enter Tryd.func44, Tryd.ntmps44
      go_wp2_with (first
        | (at_builtin; refine wpList_append_own _ rfl _ _ 26 rfl n0 9 i0 (.string ⟨#[]⟩) 1 16 Tryd.underlying26 hi hz0 hz1 hz2 rfl (by decide) _ _ _ rfl (HO.out.alloc _) ⟨w.heap.size, 0, none⟩ 1 1 [.string (mkB x)] rfl rfl (cell_one_new _ _ _) (by simp [Value.oneCell']) (by unfold maxLen; omega) (by omega) (by simp; omega) ?_; intro v' w1 o1 g1 _; obtain ⟨p1, p2, P3, P4⟩ := HP.out _ _ _ o1 g1; replace P3 := hide P3; replace P4 := hide P4; obtain ⟨a', c', rfl⟩ := own_shape o1; clear o1 g1)
        | (go_at_call 52; refine (HK.out _).mono ?_; rintro e w2 ⟨rfl, rfl⟩))
      go_ret
      exact ⟨rfl, P3.out, P4.out⟩
    · rw [HR.out _ hb false (by simpa using hl)]
      simp only [and_self, if_true]
      clear hb HR
      go_enter Tryd.func44, Tryd.ntmps44
      go_wp2_with (first
        | (at_builtin; refine wpList_append_own _ rfl _ _ 26 rfl n0 9 i0 (.string ⟨#[]⟩) 1 16 Tryd.underlying26 hi hz0 hz1 hz2 rfl (by decide) _ _ _ rfl (HO.out.alloc _) ⟨w.heap.size, 0, none⟩ 1 1 [.string (mkB x)] rfl rfl (cell_one_new _ _ _) (by simp [Value.oneCell']) (by unfold maxLen; omega) (by omega) (by simp; omega) ?_; intro v' w1 o1 g1 _; obtain ⟨p1, p2, P3, P4⟩ := HP.out _ _ _ o1 g1; replace P3 := hide P3; replace P4 := hide P4; obtain ⟨a', c', rfl⟩ := own_shape o1; clear o1 g1)
        | (go_at_call 52; refine (HK.out _).mono ?_; rintro e w2 ⟨rfl, rfl⟩))
      go_ret
      exact ⟨rfl, P3.out, P4.out⟩
end
end Go.Proofs.YthofdmepofepgaaDoor
