/- How package textin reads a word: a key, a time, a number. Conditions: the listed variables hold what the program's text lays; words of at most 140737488351232 bytes. How package textin reads a number. Conditions: the listed variables hold what the program's text lays; words of at most 140737488351232 bytes. -/
import Derived.Test.YtgekjakihocgnaaDoorG06Joined
namespace Go.Proofs.YtgekjakihocgnaaDoor
set_option linter.unusedVariables false
open Go.RowKit

section
variable {wB w w1 : World} {n0 D : Nat} {d : Dv} {a : Option Addr} {c : Nat} {x : List UInt8}
theorem size_mk (l : List UInt8) : (mkB l).size = l.length := by simp [mkB, ByteArray.size]
theorem list_mk (l : List UInt8) : (mkB l).data.toList = l := by simp [mkB]
/-- What a reading does. -/
def ReadEnd (wB : World) (n0 D : Nat) (w : World) (r : Dv × List UInt8) (e : Ending) (w' : World) : Prop := e = .returned (.string (mkB r.2)) ∧ Dr wB n0 D w' r.1 ∧ GD n0 D w w'
theorem read_exp_no (h : sgnB x = false) : readW 1 d x = (d, t_bad) := by
  unfold sgnB at h
  unfold readW
  rw [if_neg (by decide), if_pos rfl]
  cases hs : sgn x with
  | none => rfl
  | some z => rw [hs] at h; cases h
theorem read_exp_yes (h : sgnB x = true) : readW 1 d x = ({ d with exp := sgnV x }, []) := by
  unfold sgnB at h
  unfold readW sgnV
  rw [if_neg (by decide), if_pos rfl]
  cases hs : sgn x with
  | none => rw [hs] at h; cases h
  | some z => rfl
set_option maxRecDepth 100000 in
set_option maxHeartbeats 2000000 in
theorem exp_any (hL : Laid wB) (H : Dr wB n0 D w d) (hx : x.length ≤ 140737488351232) : Calls Tryd.prog 48 #[.pointer (some ⟨D, 0, none⟩), .string (mkB x)] w fun e w' => ReadEnd wB n0 D w (readW 1 d x) e w' := by
  have HS := hide (signed_any (mkB x) (by rw [size_mk]; exact hx) w (H.laid hL))
  rw [list_mk] at HS
  cases hb : sgnB x
  · rw [read_exp_no hb]
    rw [hb] at HS
    have HH := hide H
    clear hb H
    generalize sgnV x = z at *
    go_enter Tryd.func48, Tryd.ntmps48
    go_wp2_with (go_at_call 56; refine HS.out.mono ?_; rintro e w1 ⟨rfl, g1⟩)
    go_ret
    exact ⟨rfl, HH.out.on (gr_of_below g1), GD.of (gr_of_below g1)⟩
  · rw [read_exp_yes hb]
    rw [hb] at HS
    have HH := hide H
    clear hb H
    generalize sgnV x = z at *
    go_enter Tryd.func48, Tryd.ntmps48
    go_wp2_with (go_at_call 56; refine HS.out.mono ?_; rintro e w1 ⟨rfl, g1⟩; have H1 := HH.out.on (gr_of_below g1); obtain ⟨a1, c1, h1, h2⟩ := H1.st; have q1 := dr_exp h1; have q2 := dr_frozen h1 14; obtain ⟨K1, G1⟩ := H1.set (d' := { d with exp := z }) h1 h2 14 (.int .i64 z) rfl rfl (set_exp _ _ _ _ _ _); have HK := hide (And.intro K1 ((GD.of (gr_of_below g1)).trans G1)); clear H1 h1 h2 K1 G1 g1)
    go_ret
    exact ⟨rfl, HK.out⟩
/-- One more key is appended to those of the draft. -/
theorem Dr.push {tmp : Obj} {v' : Value} (H : Dr wB n0 D w d) (h1 : w.heap[D]? = some (.cells (drC d a c none 0) 45 (0, 0))) (h2 : w.ownsRow n0 9 1 (.slice a d.keys.length c) d.keys.length (strL d.keys))
    (hown : w1.ownsRow n0 9 1 v' (d.keys.length + 1) (strL d.keys ++ [.string (mkB x)])) (hg : (w.alloc tmp).grownBy w1 (Value.slice a d.keys.length c).ownBlock) :
    w1.cell? ⟨D, 8, none⟩ = some (.slice a d.keys.length c) ∧ w1.frozen? ⟨D, 8, none⟩ = false ∧ Dr wB n0 D (w1.setCell ⟨D, 8, none⟩ v') { d with keys := d.keys ++ [x] } ∧ GD n0 D w (w1.setCell ⟨D, 8, none⟩ v') := by
  obtain ⟨a', c', rfl⟩ := own_shape hown
  have hlo := H.lo
  have hhi := H.hi
  have hsz := H.sz
  have hsa : (w.alloc tmp).heap.size = w.heap.size + 1 := World.size_alloc _ _
  have hs1 := hg.size
  have hne : some D ≠ (Value.slice a d.keys.length c).ownBlock := fun e => by have := (own_at h2 e.symm).1; omega
  have b1 : w1.heap[D]? = some (.cells (drC d a c none 0) 45 (0, 0)) := (hg.block D (by omega) hne).trans ((Below.heap_alloc _ _ _ (by omega)).trans h1)
  have b2 := heap_setCell_same w1 D 8 _ _ (.slice a' (d.keys.length + 1) c') b1
  have hl : (d.keys ++ [x]).length = d.keys.length + 1 := by simp
  rw [← hl, set_keys] at b2
  have gg : GD n0 D w (w1.setCell ⟨D, 8, none⟩ (.slice a' (d.keys.length + 1) c')) := ⟨hg.1, hg.2, hg.3, by rw [World.size_setCell]; omega, fun k hk hn => by
    rw [heap_setCell_other _ _ _ _ (fun e => hn (.inl e))]
    refine (hg.block k (by omega) fun e => hn (.inr ?_)).trans (Below.heap_alloc _ _ _ hk)
    exact (own_at h2 e.symm).1⟩
  refine ⟨dr_keys b1, dr_frozen b1 8, ⟨Gr.below H.bl gg (fun k hk => by omega), hlo, hhi, by rw [World.size_setCell]; omega, H.val, ⟨a', c', ?_, ?_⟩, fun e => by simp at e⟩, gg⟩
  · rw [← hl]; exact b2
  · show World.ownsRow _ n0 _ 1 (.slice a' (d.keys ++ [x]).length c') (d.keys ++ [x]).length (strL (d.keys ++ [x]))
    rw [hl, strL_app]
    refine own_same hown fun k hk => heap_setCell_other _ _ _ _ fun e => ?_
    have e' : k = D := e
    have := (own_at hown hk).1
    omega
theorem read_key_of {b : Bool} (h : keyN x = b) {g : Bool} (h2 : decide (16 < (d.keys.length : Int) + 1) = g) : readW 0 d x = ({ d with keys := d.keys ++ [x] }, if b = true ∧ g = false then [] else t_bad) := by
  unfold readW
  rw [if_pos rfl, h]
  congr 1
  have : (d.keys.length + 1 ≤ 16) = (g = false) := by
    rw [← h2]
    simp
    omega
  simp only [this]
set_option maxRecDepth 100000 in
set_option maxHeartbeats 2000000 in
theorem tkey_any (H : Dr wB n0 D w d) (hk : d.keys.length ≤ 100000) : Calls Tryd.prog 50 #[.pointer (some ⟨D, 0, none⟩), .string (mkB x)] w fun e w' => ReadEnd wB n0 D w (readW 0 d x) e w' := by
  obtain ⟨a, c, h1, h2⟩ := H.st
  have HK := hide (fun W => key_any (mkB x) W)
  rw [list_mk] at HK
  obtain ⟨i0, hi, hz0, hz1, hz2⟩ := info_parts info_str
  have q1 := dr_keys h1
  have hsz := H.sz
  have HP := hide (fun (tmp : Obj) (w1 : World) (v' : Value) (o : w1.ownsRow n0 9 1 v' (d.keys.length + 1) (strL d.keys ++ [.string (mkB x)])) (g : (w.alloc tmp).grownBy w1 (Value.slice a d.keys.length c).ownBlock) => H.push h1 h2 o g)
  have HO := hide h2
  have HR := hide (fun b (h : keyN x = b) g (h2 : decide (16 < (d.keys.length : Int) + 1) = g) => read_key_of (d := d) h h2)
  clear H h1 h2
  cases hb : keyN x
  · rw [HR.out _ hb _ rfl]
    simp only [Bool.false_eq_true, false_and, if_false]
    rw [hb] at HK
    clear hb HR
    go_enter Tryd.func50, Tryd.ntmps50
    go_wp2_with (first
      | (at_builtin; refine wpList_append_own _ rfl _ _ 27 rfl n0 9 i0 (.string ⟨#[]⟩) 1 16 Tryd.underlying27 hi hz0 hz1 hz2 rfl (by decide) _ _ _ rfl (HO.out.alloc _) ⟨w.heap.size, 0, none⟩ 1 1 [.string (mkB x)] rfl rfl (cell_one_new _ _ _) (by simp [Value.oneCell']) (by unfold maxLen; omega) (by omega) (by simp; omega) ?_; intro v' w1 o1 g1 _; obtain ⟨p1, p2, P3, P4⟩ := HP.out _ _ _ o1 g1; replace P3 := hide P3; replace P4 := hide P4; obtain ⟨a', c', rfl⟩ := own_shape o1; clear o1 g1)
      | (go_at_call 60; refine (HK.out _).mono ?_; rintro e w2 ⟨rfl, rfl⟩))
    go_ret
    exact ⟨rfl, P3.out, P4.out⟩
  · rw [hb] at HK
    by_cases hl : (16 : Int) < (d.keys.length : Int) + 1
    · rw [HR.out _ hb true (by simpa using hl)]
      simp only [Bool.true_eq_false, and_false, if_false]
      clear hb HR
      go_enter Tryd.func50, Tryd.ntmps50
      go_wp2_with (first
        | (at_builtin; refine wpList_append_own _ rfl _ _ 27 rfl n0 9 i0 (.string ⟨#[]⟩) 1 16 Tryd.underlying27 hi hz0 hz1 hz2 rfl (by decide) _ _ _ rfl (HO.out.alloc _) ⟨w.heap.size, 0, none⟩ 1 1 [.string (mkB x)] rfl rfl (cell_one_new _ _ _) (by simp [Value.oneCell']) (by unfold maxLen; omega) (by omega) (by simp; omega) ?_; intro v' w1 o1 g1 _; obtain ⟨p1, p2, P3, P4⟩ := HP.out _ _ _ o1 g1; replace P3 := hide P3; replace P4 := hide P4; obtain ⟨a', c', rfl⟩ := own_shape o1; clear o1 g1)
        | (go_at_call 60; refine (HK.out _).mono ?_; rintro e w2 ⟨rfl, rfl⟩))
      go_ret
      exact ⟨rfl, P3.out, P4.out⟩
    · rw [HR.out _ hb false (by simpa using hl)]
      simp only [and_self, if_true]
      clear hb HR
      go_enter Tryd.func50, Tryd.ntmps50
      go_wp2_with (first
        | (at_builtin; refine wpList_append_own _ rfl _ _ 27 rfl n0 9 i0 (.string ⟨#[]⟩) 1 16 Tryd.underlying27 hi hz0 hz1 hz2 rfl (by decide) _ _ _ rfl (HO.out.alloc _) ⟨w.heap.size, 0, none⟩ 1 1 [.string (mkB x)] rfl rfl (cell_one_new _ _ _) (by simp [Value.oneCell']) (by unfold maxLen; omega) (by omega) (by simp; omega) ?_; intro v' w1 o1 g1 _; obtain ⟨p1, p2, P3, P4⟩ := HP.out _ _ _ o1 g1; replace P3 := hide P3; replace P4 := hide P4; obtain ⟨a', c', rfl⟩ := own_shape o1; clear o1 g1)
        | (go_at_call 60; refine (HK.out _).mono ?_; rintro e w2 ⟨rfl, rfl⟩))
      go_ret
      exact ⟨rfl, P3.out, P4.out⟩
end
end Go.Proofs.YtgekjakihocgnaaDoor

namespace Go.Proofs.YtgekjakihocgnaaDoor
set_option linter.unusedVariables false
open Go.RowKit

/-- What a reading of a number has captured: the greatest that may be, its fault, and how it is kept (with the draft's address). -/
structure NumBox (w : World) (n0 D k fk g f p q : Nat) : Prop where
  cg : w.cell? ⟨g, 0, none⟩ = some (.int .u64 (mostK k : Int))
  cf : w.cell? ⟨f, 0, none⟩ = some (.string (mkB (faultK k)))
  cp : w.cell? ⟨p, 0, none⟩ = some (.func (.func fk) #[] #[.pointer (some ⟨q, 0, none⟩)])
  cq : w.cell? ⟨q, 0, none⟩ = some (.pointer (some ⟨D, 0, none⟩))
  lt : g < n0 ∧ f < n0 ∧ p < n0 ∧ q < n0
  ne : g ≠ D ∧ f ≠ D ∧ p ≠ D ∧ q ≠ D
section
variable {wB w w' : World} {n0 D k fk g f p q : Nat} {d : Dv} {x : List UInt8}
theorem NumBox.on (h : NumBox w n0 D k fk g f p q) (hn : n0 ≤ w.heap.size) (hg : GD n0 D w w') : NumBox w' n0 D k fk g f p q := by
  obtain ⟨l1, l2, l3, l4⟩ := h.lt
  obtain ⟨m1, m2, m3, m4⟩ := h.ne
  have key : ∀ b, b < n0 → b ≠ D → ∀ v, w.cell? ⟨b, 0, none⟩ = some v → w'.cell? ⟨b, 0, none⟩ = some v := fun b hb hne v hv => (World.cell?_of_block (hg.block b (by omega) (by omega))).trans hv
  exact ⟨key g l1 m1 _ h.cg, key f l2 m2 _ h.cf, key p l3 m3 _ h.cp, key q l4 m4 _ h.cq, h.lt, h.ne⟩
theorem gr_drew (w : World) : w.grownBy w.drew none := ⟨rfl, rfl, rfl, Nat.le_refl _, fun _ _ _ => rfl⟩
/-- What a keeping does. -/
def KeepEnd (wB : World) (n0 D : Nat) (w : World) (d' : Dv) (e : Ending) (w' : World) : Prop := (∃ v, e = .returned v) ∧ Dr wB n0 D w' d' ∧ GD n0 D w w'
set_option maxRecDepth 100000 in
set_option maxHeartbeats 1000000 in
theorem keep2_any (H : Dr wB n0 D w d) (cq : w.cell? ⟨q, 0, none⟩ = some (.pointer (some ⟨D, 0, none⟩))) (z : Int) : Calls Tryd.prog 52 #[.int .u64 z, .pointer (some ⟨q, 0, none⟩)] w fun e w' => KeepEnd wB n0 D w { d with del := z } e w' := by
  obtain ⟨a, c, h1, h2⟩ := H.st
  have q1 := dr_del h1
  have q2 := dr_frozen h1 16
  have HK := hide (H.set (d' := { d with del := z }) h1 h2 16 (.int .u64 z) rfl rfl (set_del _ _ _ _ _ _))
  clear H h1 h2
  go_enter Tryd.func52, Tryd.ntmps52
  go_wp2
  go_end0
  exact ⟨⟨_, rfl⟩, HK.out⟩
set_option maxRecDepth 100000 in
set_option maxHeartbeats 1000000 in
theorem keep3_any (H : Dr wB n0 D w d) (cq : w.cell? ⟨q, 0, none⟩ = some (.pointer (some ⟨D, 0, none⟩))) (z : Int) (hz : 0 ≤ z ∧ z ≤ 4294967295) : Calls Tryd.prog 57 #[.int .u64 z, .pointer (some ⟨q, 0, none⟩)] w fun e w' => KeepEnd wB n0 D w { d with fl := z } e w' := by
  obtain ⟨a, c, h1, h2⟩ := H.st
  have q1 := dr_fl h1
  have q2 := dr_frozen h1 13
  have HK := hide (H.set (d' := { d with fl := z }) h1 h2 13 (.int .u32 z) rfl rfl (set_fl _ _ _ _ _ _))
  have e1 : z % 4294967296 = z := by omega
  clear H h1 h2
  go_enter Tryd.func57, Tryd.ntmps57
  go_wp2
  go_end0
  exact ⟨⟨_, rfl⟩, HK.out⟩
set_option maxRecDepth 100000 in
set_option maxHeartbeats 1000000 in
theorem keep5_any (H : Dr wB n0 D w d) (cq : w.cell? ⟨q, 0, none⟩ = some (.pointer (some ⟨D, 0, none⟩))) (z : Int) : Calls Tryd.prog 59 #[.int .u64 z, .pointer (some ⟨q, 0, none⟩)] w fun e w' => KeepEnd wB n0 D w { d with cas := z } e w' := by
  obtain ⟨a, c, h1, h2⟩ := H.st
  have q1 := dr_cas h1
  have q2 := dr_frozen h1 15
  have HK := hide (H.set (d' := { d with cas := z }) h1 h2 15 (.int .u64 z) rfl rfl (set_cas _ _ _ _ _ _))
  clear H h1 h2
  go_enter Tryd.func59, Tryd.ntmps59
  go_wp2
  go_end0
  exact ⟨⟨_, rfl⟩, HK.out⟩
set_option maxRecDepth 100000 in
set_option maxHeartbeats 1000000 in
theorem keep4_any (H : Dr wB n0 D w d) (cq : w.cell? ⟨q, 0, none⟩ = some (.pointer (some ⟨D, 0, none⟩))) (hq : q ≠ D) (z : Int) : Calls Tryd.prog 58 #[.int .u64 z, .pointer (some ⟨q, 0, none⟩)] w fun e w' => KeepEnd wB n0 D w { d with size := z, sized := true } e w' := by
  obtain ⟨a, c, h1, h2⟩ := H.st
  have q1 := dr_size h1
  have q2 := dr_frozen h1 20
  have q3 := dr_sized h1
  have q4 := dr_frozen h1 21
  obtain ⟨K1, G1⟩ := H.set (d' := { d with size := z }) h1 h2 20 (.int .u64 z) rfl rfl (set_size _ _ _ _ _ _)
  obtain ⟨a1, c1, p1, p2⟩ := K1.st
  obtain ⟨K2, G2⟩ := K1.set (d' := { d with size := z, sized := true }) p1 p2 21 (.bool true) rfl rfl (set_sized _ _ _ _ _ _)
  have HK := hide (And.intro K2 (G1.trans G2))
  clear H h1 h2 K1 K2 G1 G2 p1 p2
  go_enter Tryd.func58, Tryd.ntmps58
  go_wp2
  go_region
  go_wp2
  go_end0
  exact ⟨⟨_, rfl⟩, HK.out.1.on (gr_drew _), HK.out.2.trans (GD.of (gr_drew _))⟩
theorem read_num (k : Nat) (h0 : k ≠ 0) (h1 : k ≠ 1) : readW k d x = if decB x = true ∧ decV x ≤ (mostK k : Int) then (keepK k d (decV x).toNat, []) else (d, faultK k) := by
  unfold readW decB decV
  rw [if_neg h0, if_neg h1]
  cases hd : dec x with
  | none => simp
  | some u =>
    simp only [Option.getD_some, Option.isSome_some, true_and, Int.toNat_natCast]
    by_cases hu : u ≤ mostK k
    · rw [if_pos hu, if_pos (by omega)]
    · rw [if_neg hu, if_neg (by omega)]
theorem decV_pos (x : List UInt8) : 0 ≤ decV x := by unfold decV; omega
set_option maxRecDepth 100000 in
set_option maxHeartbeats 2000000 in
theorem dec2_any (hL : Laid wB) (H : Dr wB n0 D w d) (B : NumBox w n0 D 2 52 g f p q) (hx : x.length ≤ 140737488351232) : Calls Tryd.prog 61 #[.string (mkB x), .pointer (some ⟨g, 0, none⟩), .pointer (some ⟨f, 0, none⟩), .pointer (some ⟨p, 0, none⟩)] w fun e w' => ReadEnd wB n0 D w (readW 2 d x) e w' := by
  have HS := hide (decimal_any (mkB x) (by rw [size_mk]; exact hx) w (H.laid hL))
  rw [list_mk] at HS
  rw [read_num 2 (by decide) (by decide)]
  have hz0 := decV_pos x
  have ek : keepK 2 d (decV x).toNat = (let z := decV x; { d with del := z }) := by
    show _ = _
    unfold keepK
    simp only [Int.toNat_of_nonneg hz0]
    rfl
  rw [ek]
  clear ek
  have em : (mostK 2 : Int) = 18446744073709551615 := by decide
  rw [em]
  have HH := hide H
  have HB := hide (fun (w1 : World) (g1 : Below w.heap.size w w1) => B.on H.sz (GD.of (gr_of_below g1)))
  clear H B
  cases hb : decB x
  · rw [hb] at HS
    simp only [Bool.false_eq_true, false_and, if_false]
    generalize decV x = z at *
    clear hb hz0
    go_enter Tryd.func61, Tryd.ntmps61
    go_wp2_with (go_at_call 62; refine HS.out.mono ?_; rintro e w1 ⟨rfl, g1⟩; have B1 := HB.out _ g1; have K1 := HH.out.on (gr_of_below g1); have b1 := B1.cf; have G1 : GD n0 D w w1 := GD.of (gr_of_below g1); replace K1 := hide K1; replace G1 := hide G1; clear g1 B1)
    go_ret
    exact ⟨rfl, K1.out, G1.out⟩
  · rw [hb] at HS
    generalize decV x = z at *
    clear hb
    by_cases hm : z ≤ 18446744073709551615
    · rw [if_pos ⟨rfl, hm⟩]
      have hmi : ¬ (18446744073709551615 : Int) < z := by omega
      have HC := hide (fun (w1 : World) (K1 : Dr wB n0 D w1 d) (B1 : NumBox w1 n0 D 2 52 g f p q) => keep2_any K1 B1.cq z)
      clear hm hz0
      go_enter Tryd.func61, Tryd.ntmps61
      go_wp2_with (first
        | (go_at_call 62; refine HS.out.mono ?_; rintro e w1 ⟨rfl, g1⟩; have B1 := HB.out _ g1; have K1 := HH.out.on (gr_of_below g1); have b1 := B1.cf; have b2 := B1.cg; have b3 := B1.cp; rw [em] at b2; have G1 : GD n0 D w w1 := GD.of (gr_of_below g1); have C1 := hide (HC.out _ K1 B1); replace G1 := hide G1; clear g1 B1 K1)
        | (go_at_call 52; refine C1.out.mono ?_; rintro e w2 ⟨⟨v, rfl⟩, K2, G2⟩; replace K2 := hide K2; replace G2 := hide (G1.out.trans G2)))
      go_ret
      exact ⟨rfl, K2.out, G2.out⟩
    · rw [if_neg (fun h => hm h.2)]
      have hmi : (18446744073709551615 : Int) < z := by omega
      clear hm hz0
      go_enter Tryd.func61, Tryd.ntmps61
      go_wp2_with (go_at_call 62; refine HS.out.mono ?_; rintro e w1 ⟨rfl, g1⟩; have B1 := HB.out _ g1; have K1 := HH.out.on (gr_of_below g1); have b1 := B1.cf; have b2 := B1.cg; rw [em] at b2; have G1 : GD n0 D w w1 := GD.of (gr_of_below g1); replace K1 := hide K1; replace G1 := hide G1; clear g1 B1)
      go_ret
      exact ⟨rfl, K1.out, G1.out⟩
set_option maxRecDepth 100000 in
set_option maxHeartbeats 2000000 in
theorem dec3_any (hL : Laid wB) (H : Dr wB n0 D w d) (B : NumBox w n0 D 3 57 g f p q) (hx : x.length ≤ 140737488351232) : Calls Tryd.prog 61 #[.string (mkB x), .pointer (some ⟨g, 0, none⟩), .pointer (some ⟨f, 0, none⟩), .pointer (some ⟨p, 0, none⟩)] w fun e w' => ReadEnd wB n0 D w (readW 3 d x) e w' := by
  have HS := hide (decimal_any (mkB x) (by rw [size_mk]; exact hx) w (H.laid hL))
  rw [list_mk] at HS
  rw [read_num 3 (by decide) (by decide)]
  have hz0 := decV_pos x
  have ek : keepK 3 d (decV x).toNat = (let z := decV x; { d with fl := z }) := by
    show _ = _
    unfold keepK
    simp only [Int.toNat_of_nonneg hz0]
    rfl
  rw [ek]
  clear ek
  have em : (mostK 3 : Int) = 4294967295 := by decide
  rw [em]
  have HH := hide H
  have HB := hide (fun (w1 : World) (g1 : Below w.heap.size w w1) => B.on H.sz (GD.of (gr_of_below g1)))
  clear H B
  cases hb : decB x
  · rw [hb] at HS
    simp only [Bool.false_eq_true, false_and, if_false]
    generalize decV x = z at *
    clear hb hz0
    go_enter Tryd.func61, Tryd.ntmps61
    go_wp2_with (go_at_call 62; refine HS.out.mono ?_; rintro e w1 ⟨rfl, g1⟩; have B1 := HB.out _ g1; have K1 := HH.out.on (gr_of_below g1); have b1 := B1.cf; have G1 : GD n0 D w w1 := GD.of (gr_of_below g1); replace K1 := hide K1; replace G1 := hide G1; clear g1 B1)
    go_ret
    exact ⟨rfl, K1.out, G1.out⟩
  · rw [hb] at HS
    generalize decV x = z at *
    clear hb
    by_cases hm : z ≤ 4294967295
    · rw [if_pos ⟨rfl, hm⟩]
      have hmi : ¬ (4294967295 : Int) < z := by omega
      have HC := hide (fun (w1 : World) (K1 : Dr wB n0 D w1 d) (B1 : NumBox w1 n0 D 3 57 g f p q) => keep3_any K1 B1.cq z ⟨hz0, hm⟩)
      clear hm hz0
      go_enter Tryd.func61, Tryd.ntmps61
      go_wp2_with (first
        | (go_at_call 62; refine HS.out.mono ?_; rintro e w1 ⟨rfl, g1⟩; have B1 := HB.out _ g1; have K1 := HH.out.on (gr_of_below g1); have b1 := B1.cf; have b2 := B1.cg; have b3 := B1.cp; rw [em] at b2; have G1 : GD n0 D w w1 := GD.of (gr_of_below g1); have C1 := hide (HC.out _ K1 B1); replace G1 := hide G1; clear g1 B1 K1)
        | (go_at_call 57; refine C1.out.mono ?_; rintro e w2 ⟨⟨v, rfl⟩, K2, G2⟩; replace K2 := hide K2; replace G2 := hide (G1.out.trans G2)))
      go_ret
      exact ⟨rfl, K2.out, G2.out⟩
    · rw [if_neg (fun h => hm h.2)]
      have hmi : (4294967295 : Int) < z := by omega
      clear hm hz0
      go_enter Tryd.func61, Tryd.ntmps61
      go_wp2_with (go_at_call 62; refine HS.out.mono ?_; rintro e w1 ⟨rfl, g1⟩; have B1 := HB.out _ g1; have K1 := HH.out.on (gr_of_below g1); have b1 := B1.cf; have b2 := B1.cg; rw [em] at b2; have G1 : GD n0 D w w1 := GD.of (gr_of_below g1); replace K1 := hide K1; replace G1 := hide G1; clear g1 B1)
      go_ret
      exact ⟨rfl, K1.out, G1.out⟩
set_option maxRecDepth 100000 in
set_option maxHeartbeats 2000000 in
theorem dec4_any (hL : Laid wB) (H : Dr wB n0 D w d) (B : NumBox w n0 D 4 58 g f p q) (hx : x.length ≤ 140737488351232) : Calls Tryd.prog 61 #[.string (mkB x), .pointer (some ⟨g, 0, none⟩), .pointer (some ⟨f, 0, none⟩), .pointer (some ⟨p, 0, none⟩)] w fun e w' => ReadEnd wB n0 D w (readW 4 d x) e w' := by
  have HS := hide (decimal_any (mkB x) (by rw [size_mk]; exact hx) w (H.laid hL))
  rw [list_mk] at HS
  rw [read_num 4 (by decide) (by decide)]
  have hz0 := decV_pos x
  have ek : keepK 4 d (decV x).toNat = (let z := decV x; { d with size := z, sized := true }) := by
    show _ = _
    unfold keepK
    simp only [Int.toNat_of_nonneg hz0]
    rfl
  rw [ek]
  clear ek
  have em : (mostK 4 : Int) = 18446744073709551615 := by decide
  rw [em]
  have HH := hide H
  have HB := hide (fun (w1 : World) (g1 : Below w.heap.size w w1) => B.on H.sz (GD.of (gr_of_below g1)))
  clear H B
  cases hb : decB x
  · rw [hb] at HS
    simp only [Bool.false_eq_true, false_and, if_false]
    generalize decV x = z at *
    clear hb hz0
    go_enter Tryd.func61, Tryd.ntmps61
    go_wp2_with (go_at_call 62; refine HS.out.mono ?_; rintro e w1 ⟨rfl, g1⟩; have B1 := HB.out _ g1; have K1 := HH.out.on (gr_of_below g1); have b1 := B1.cf; have G1 : GD n0 D w w1 := GD.of (gr_of_below g1); replace K1 := hide K1; replace G1 := hide G1; clear g1 B1)
    go_ret
    exact ⟨rfl, K1.out, G1.out⟩
  · rw [hb] at HS
    generalize decV x = z at *
    clear hb
    by_cases hm : z ≤ 18446744073709551615
    · rw [if_pos ⟨rfl, hm⟩]
      have hmi : ¬ (18446744073709551615 : Int) < z := by omega
      have HC := hide (fun (w1 : World) (K1 : Dr wB n0 D w1 d) (B1 : NumBox w1 n0 D 4 58 g f p q) => keep4_any K1 B1.cq B1.ne.2.2.2 z)
      clear hm hz0
      go_enter Tryd.func61, Tryd.ntmps61
      go_wp2_with (first
        | (go_at_call 62; refine HS.out.mono ?_; rintro e w1 ⟨rfl, g1⟩; have B1 := HB.out _ g1; have K1 := HH.out.on (gr_of_below g1); have b1 := B1.cf; have b2 := B1.cg; have b3 := B1.cp; rw [em] at b2; have G1 : GD n0 D w w1 := GD.of (gr_of_below g1); have C1 := hide (HC.out _ K1 B1); replace G1 := hide G1; clear g1 B1 K1)
        | (go_at_call 58; refine C1.out.mono ?_; rintro e w2 ⟨⟨v, rfl⟩, K2, G2⟩; replace K2 := hide K2; replace G2 := hide (G1.out.trans G2)))
      go_ret
      exact ⟨rfl, K2.out, G2.out⟩
    · rw [if_neg (fun h => hm h.2)]
      have hmi : (18446744073709551615 : Int) < z := by omega
      clear hm hz0
      go_enter Tryd.func61, Tryd.ntmps61
      go_wp2_with (go_at_call 62; refine HS.out.mono ?_; rintro e w1 ⟨rfl, g1⟩; have B1 := HB.out _ g1; have K1 := HH.out.on (gr_of_below g1); have b1 := B1.cf; have b2 := B1.cg; rw [em] at b2; have G1 : GD n0 D w w1 := GD.of (gr_of_below g1); replace K1 := hide K1; replace G1 := hide G1; clear g1 B1)
      go_ret
      exact ⟨rfl, K1.out, G1.out⟩
set_option maxRecDepth 100000 in
set_option maxHeartbeats 2000000 in
theorem dec5_any (hL : Laid wB) (H : Dr wB n0 D w d) (B : NumBox w n0 D 5 59 g f p q) (hx : x.length ≤ 140737488351232) : Calls Tryd.prog 61 #[.string (mkB x), .pointer (some ⟨g, 0, none⟩), .pointer (some ⟨f, 0, none⟩), .pointer (some ⟨p, 0, none⟩)] w fun e w' => ReadEnd wB n0 D w (readW 5 d x) e w' := by
  have HS := hide (decimal_any (mkB x) (by rw [size_mk]; exact hx) w (H.laid hL))
  rw [list_mk] at HS
  rw [read_num 5 (by decide) (by decide)]
  have hz0 := decV_pos x
  have ek : keepK 5 d (decV x).toNat = (let z := decV x; { d with cas := z }) := by
    show _ = _
    unfold keepK
    simp only [Int.toNat_of_nonneg hz0]
    rfl
  rw [ek]
  clear ek
  have em : (mostK 5 : Int) = 18446744073709551615 := by decide
  rw [em]
  have HH := hide H
  have HB := hide (fun (w1 : World) (g1 : Below w.heap.size w w1) => B.on H.sz (GD.of (gr_of_below g1)))
  clear H B
  cases hb : decB x
  · rw [hb] at HS
    simp only [Bool.false_eq_true, false_and, if_false]
    generalize decV x = z at *
    clear hb hz0
    go_enter Tryd.func61, Tryd.ntmps61
    go_wp2_with (go_at_call 62; refine HS.out.mono ?_; rintro e w1 ⟨rfl, g1⟩; have B1 := HB.out _ g1; have K1 := HH.out.on (gr_of_below g1); have b1 := B1.cf; have G1 : GD n0 D w w1 := GD.of (gr_of_below g1); replace K1 := hide K1; replace G1 := hide G1; clear g1 B1)
    go_ret
    exact ⟨rfl, K1.out, G1.out⟩
  · rw [hb] at HS
    generalize decV x = z at *
    clear hb
    by_cases hm : z ≤ 18446744073709551615
    · rw [if_pos ⟨rfl, hm⟩]
      have hmi : ¬ (18446744073709551615 : Int) < z := by omega
      have HC := hide (fun (w1 : World) (K1 : Dr wB n0 D w1 d) (B1 : NumBox w1 n0 D 5 59 g f p q) => keep5_any K1 B1.cq z)
      clear hm hz0
      go_enter Tryd.func61, Tryd.ntmps61
      go_wp2_with (first
        | (go_at_call 62; refine HS.out.mono ?_; rintro e w1 ⟨rfl, g1⟩; have B1 := HB.out _ g1; have K1 := HH.out.on (gr_of_below g1); have b1 := B1.cf; have b2 := B1.cg; have b3 := B1.cp; rw [em] at b2; have G1 : GD n0 D w w1 := GD.of (gr_of_below g1); have C1 := hide (HC.out _ K1 B1); replace G1 := hide G1; clear g1 B1 K1)
        | (go_at_call 59; refine C1.out.mono ?_; rintro e w2 ⟨⟨v, rfl⟩, K2, G2⟩; replace K2 := hide K2; replace G2 := hide (G1.out.trans G2)))
      go_ret
      exact ⟨rfl, K2.out, G2.out⟩
    · rw [if_neg (fun h => hm h.2)]
      have hmi : (18446744073709551615 : Int) < z := by omega
      clear hm hz0
      go_enter Tryd.func61, Tryd.ntmps61
      go_wp2_with (go_at_call 62; refine HS.out.mono ?_; rintro e w1 ⟨rfl, g1⟩; have B1 := HB.out _ g1; have K1 := HH.out.on (gr_of_below g1); have b1 := B1.cf; have b2 := B1.cg; rw [em] at b2; have G1 : GD n0 D w w1 := GD.of (gr_of_below g1); replace K1 := hide K1; replace G1 := hide G1; clear g1 B1)
      go_ret
      exact ⟨rfl, K1.out, G1.out⟩
end
end Go.Proofs.YtgekjakihocgnaaDoor
