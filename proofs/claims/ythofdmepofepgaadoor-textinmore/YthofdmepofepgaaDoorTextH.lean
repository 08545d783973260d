/- How package textin reads a number. Conditions: the listed variables hold what the program's text lays; words of at most 140737488351232 bytes. -/
import Derived.Test.YthofdmepofepgaaDoorG13Joined
namespace Go.Proofs.YthofdmepofepgaaDoor
set_option linter.unusedVariables false
open Go.RowKit

/-- What a reading of a number has captured: the greatest that may be, its fault, and how it is kept (with the draft's address). -/
structure NumBox (w : World) (n0 D k fk g f p q : Nat) : Prop where
  cg : w.cell? ⟨g, 0, none⟩ = some (.int .u64 (mostK k : Int))
  cf : w.cell? ⟨f, 0, none⟩ = some (.string (mkB (faultK k)))
  cp : w.cell? ⟨p, 0, none⟩ = some (.func (.func fk) #[] #[.pointer (some ⟨q, 0, none⟩)])
  cq : w.cell? ⟨q, 0, none⟩ = some (.pointer (some ⟨D, 0, none⟩))
  lt : g < n0 ∧ f < n0 ∧ p < n0 ∧ q < n0
  ne : g ≠ D ∧ f ≠ D ∧ p ≠ D ∧ q ≠ D
section
variable {wB w w' : World} {n0 D k fk g f p q : Nat} {d : Dv} {x : List UInt8}
theorem NumBox.on (h : NumBox w n0 D k fk g f p q) (hn : n0 ≤ w.heap.size) (hg : GD n0 D w w') : NumBox w' n0 D k fk g f p q := by
  obtain ⟨l1, l2, l3, l4⟩ := h.lt
  obtain ⟨m1, m2, m3, m4⟩ := h.ne
  have key : ∀ b, b < n0 → b ≠ D → ∀ v, w.cell? ⟨b, 0, none⟩ = some v → w'.cell? ⟨b, 0, none⟩ = some v := fun b hb hne v hv => (World.cell?_of_block (hg.block b (by omega) (by omega))).trans hv
  exact ⟨key g l1 m1 _ h.cg, key f l2 m2 _ h.cf, key p l3 m3 _ h.cp, key q l4 m4 _ h.cq, h.lt, h.ne⟩
theorem gr_drew (w : World) : w.grownBy w.drew none := ⟨rfl, rfl, rfl, Nat.le_refl _, fun _ _ _ => rfl⟩
/-- What a keeping does. -/
def KeepEnd (wB : World) (n0 D : Nat) (w : World) (d' : Dv) (e : Ending) (w' : World) : Prop := (∃ v, e = .returned v) ∧ Dr wB n0 D w' d' ∧ GD n0 D w w'
set_option maxRecDepth 100000 in
set_option maxHeartbeats 1000000 in
theorem keep2_any (H : Dr wB n0 D w d) (cq : w.cell? ⟨q, 0, none⟩ = some (.pointer (some ⟨D, 0, none⟩))) (z : Int) : Calls Tryd.prog 46 #[.int .u64 z, .pointer (some ⟨q, 0, none⟩)] w fun e w' => KeepEnd wB n0 D w { d with del := z } e w' := by
  obtain ⟨a, c, h1, h2⟩ := H.st
  have q1 := dr_del h1
  have q2 := dr_frozen h1 16
  have HK := hide (H.set (d' := { d with del := z }) h1 h2 16 (.int .u64 z) rfl rfl (set_del _ _ _ _ _ _))
  clear H h1 h2
  go_enter Tryd.func46, Tryd.ntmps46
  go_wp2
  go_end0
  exact ⟨⟨_, rfl⟩, HK.out⟩
set_option maxRecDepth 100000 in
set_option maxHeartbeats 1000000 in
theorem keep3_any (H : Dr wB n0 D w d) (cq : w.cell? ⟨q, 0, none⟩ = some (.pointer (some ⟨D, 0, none⟩))) (z : Int) (hz : 0 ≤ z ∧ z ≤ 4294967295) : Calls Tryd.prog 49 #[.int .u64 z, .pointer (some ⟨q, 0, none⟩)] w fun e w' => KeepEnd wB n0 D w { d with fl := z } e w' := by
  obtain ⟨a, c, h1, h2⟩ := H.st
  have q1 := dr_fl h1
  have q2 := dr_frozen h1 13
  have HK := hide (H.set (d' := { d with fl := z }) h1 h2 13 (.int .u32 z) rfl rfl (set_fl _ _ _ _ _ _))
  have e1 : z % 4294967296 = z := by omega
  clear H h1 h2
  go_enter Tryd.func49, Tryd.ntmps49
  go_wp2
  go_end0
  exact ⟨⟨_, rfl⟩, HK.out⟩
set_option maxRecDepth 100000 in
set_option maxHeartbeats 1000000 in
theorem keep5_any (H : Dr wB n0 D w d) (cq : w.cell? ⟨q, 0, none⟩ = some (.pointer (some ⟨D, 0, none⟩))) (z : Int) : Calls Tryd.prog 51 #[.int .u64 z, .pointer (some ⟨q, 0, none⟩)] w fun e w' => KeepEnd wB n0 D w { d with cas := z } e w' := by
  obtain ⟨a, c, h1, h2⟩ := H.st
  have q1 := dr_cas h1
  have q2 := dr_frozen h1 15
  have HK := hide (H.set (d' := { d with cas := z }) h1 h2 15 (.int .u64 z) rfl rfl (set_cas _ _ _ _ _ _))
  clear H h1 h2
  go_enter Tryd.func51, Tryd.ntmps51
  go_wp2
  go_end0
  exact ⟨⟨_, rfl⟩, HK.out⟩
set_option maxRecDepth 100000 in
set_option maxHeartbeats 1000000 in
theorem keep4_any (H : Dr wB n0 D w d) (cq : w.cell? ⟨q, 0, none⟩ = some (.pointer (some ⟨D, 0, none⟩))) (hq : q ≠ D) (z : Int) : Calls Tryd.prog 50 #[.int .u64 z, .pointer (some ⟨q, 0, none⟩)] w fun e w' => KeepEnd wB n0 D w { d with size := z, sized := true } e w' := by
  obtain ⟨a, c, h1, h2⟩ := H.st
  have q1 := dr_size h1
  have q2 := dr_frozen h1 20
  have q3 := dr_sized h1
  have q4 := dr_frozen h1 21
  obtain ⟨K1, G1⟩ := H.set (d' := { d with size := z }) h1 h2 20 (.int .u64 z) rfl rfl (set_size _ _ _ _ _ _)
  obtain ⟨a1, c1, p1, p2⟩ := K1.st
  obtain ⟨K2, G2⟩ := K1.set (d' := { d with size := z, sized := true }) p1 p2 21 (.bool true) rfl rfl (set_sized _ _ _ _ _ _)
  have HK := hide (And.intro K2 (G1.trans G2))
  clear H h1 h2 K1 K2 G1 G2 p1 p2
  go_enter Tryd.func50, Tryd.ntmps50
  go_wp2
  go_region
  go_wp2
  go_end0
  exact ⟨⟨_, rfl⟩, HK.out.1.on (gr_drew _), HK.out.2.trans (GD.of (gr_drew _))⟩
theorem read_num (k : Nat) (h0 : k ≠ 0) (h1 : k ≠ 1) : readW k d x = if decB x = true ∧ decV x ≤ (mostK k : Int) then (keepK k d (decV x).toNat, []) else (d, faultK k) := by
  unfold readW decB decV
  rw [if_neg h0, if_neg h1]
  cases hd : dec x with
  | none => simp
  | some u =>
    simp only [Option.getD_some, Option.isSome_some, true_and, Int.toNat_natCast]
    by_cases hu : u ≤ mostK k
    · rw [if_pos hu, if_pos (by omega)]
    · rw [if_neg hu, if_neg (by omega)]
theorem decV_pos (x : List UInt8) : 0 ≤ decV x := by unfold decV; omega
set_option maxRecDepth 100000 in
set_option maxHeartbeats 2000000 in
theorem dec2_any (hL : Laid wB) (H : Dr wB n0 D w d) (B : NumBox w n0 D 2 46 g f p q) (hx : x.length ≤ 140737488351232) : Calls Tryd.prog 53 #[.string (mkB x), .pointer (some ⟨g, 0, none⟩), .pointer (some ⟨f, 0, none⟩), .pointer (some ⟨p, 0, none⟩)] w fun e w' => ReadEnd wB n0 D w (readW 2 d x) e w' := by
  have HS := hide (decimal_any (mkB x) (by rw [size_mk]; exact hx) w (H.laid hL))
  rw [list_mk] at HS
  rw [read_num 2 (by decide) (by decide)]
  have hz0 := decV_pos x
  have ek : keepK 2 d (decV x).toNat = (let z := decV x; { d with del := z }) := by
    show _ = _
    unfold keepK
    simp only [Int.toNat_of_nonneg hz0]
    rfl
  rw [ek]
  clear ek
  have em : (mostK 2 : Int) = 18446744073709551615 := by decide
  rw [em]
  have HH := hide H
  have HB := hide (fun (w1 : World) (g1 : Below w.heap.size w w1) => B.on H.sz (GD.of (gr_of_below g1)))
  clear H B
  cases hb : decB x
  · rw [hb] at HS
    simp only [Bool.false_eq_true, false_and, if_false]
    generalize decV x = z at *
    clear hb hz0
    go_enter Tryd.func53, Tryd.ntmps53
    go_wp2_with (go_at_call 54; refine HS.out.mono ?_; rintro e w1 ⟨rfl, g1⟩; have B1 := HB.out _ g1; have K1 := HH.out.on (gr_of_below g1); have b1 := B1.cf; have G1 : GD n0 D w w1 := GD.of (gr_of_below g1); replace K1 := hide K1; replace G1 := hide G1; clear g1 B1)
    go_ret
    exact ⟨rfl, K1.out, G1.out⟩
  · rw [hb] at HS
    generalize decV x = z at *
    clear hb
    by_cases hm : z ≤ 18446744073709551615
    · rw [if_pos ⟨rfl, hm⟩]
      have hmi : ¬ (18446744073709551615 : Int) < z := by omega
      have HC := hide (fun (w1 : World) (K1 : Dr wB n0 D w1 d) (B1 : NumBox w1 n0 D 2 46 g f p q) => keep2_any K1 B1.cq z)
      clear hm hz0
      go_enter Tryd.func53, Tryd.ntmps53
      go_wp2_with (first
        | (go_at_call 54; refine HS.out.mono ?_; rintro e w1 ⟨rfl, g1⟩; have B1 := HB.out _ g1; have K1 := HH.out.on (gr_of_below g1); have b1 := B1.cf; have b2 := B1.cg; have b3 := B1.cp; rw [em] at b2; have G1 : GD n0 D w w1 := GD.of (gr_of_below g1); have C1 := hide (HC.out _ K1 B1); replace G1 := hide G1; clear g1 B1 K1)
        | (go_at_call 46; refine C1.out.mono ?_; rintro e w2 ⟨⟨v, rfl⟩, K2, G2⟩; replace K2 := hide K2; replace G2 := hide (G1.out.trans G2)))
      go_ret
      exact ⟨rfl, K2.out, G2.out⟩
    · rw [if_neg (fun h => hm h.2)]
      have hmi : (18446744073709551615 : Int) < z := by omega
      clear hm hz0
      go_enter Tryd.func53, Tryd.ntmps53
      go_wp2_with (go_at_call 54; refine HS.out.mono ?_; rintro e w1 ⟨rfl, g1⟩; have B1 := HB.out _ g1; have K1 := HH.out.on (gr_of_below g1); have b1 := B1.cf; have b2 := B1.cg; rw [em] at b2; have G1 : GD n0 D w w1 := GD.of (gr_of_below g1); replace K1 := hide K1; replace G1 := hide G1; clear g1 B1)
      go_ret
      exact ⟨rfl, K1.out, G1.out⟩
set_option maxRecDepth 100000 in
set_option maxHeartbeats 2000000 in
theorem dec3_any (hL : Laid wB) (H : Dr wB n0 D w d) (B : NumBox w n0 D 3 49 g f p q) (hx : x.length ≤ 140737488351232) : Calls Tryd.prog 53 #[.string (mkB x), .pointer (some ⟨g, 0, none⟩), .pointer (some ⟨f, 0, none⟩), .pointer (some ⟨p, 0, none⟩)] w fun e w' => ReadEnd wB n0 D w (readW 3 d x) e w' := by
  have HS := hide (decimal_any (mkB x) (by rw [size_mk]; exact hx) w (H.laid hL))
  rw [list_mk] at HS
  rw [read_num 3 (by decide) (by decide)]
  have hz0 := decV_pos x
  have ek : keepK 3 d (decV x).toNat = (let z := decV x; { d with fl := z }) := by
    show _ = _
    unfold keepK
    simp only [Int.toNat_of_nonneg hz0]
    rfl
  rw [ek]
  clear ek
  have em : (mostK 3 : Int) = 4294967295 := by decide
  rw [em]
  have HH := hide H
  have HB := hide (fun (w1 : World) (g1 : Below w.heap.size w w1) => B.on H.sz (GD.of (gr_of_below g1)))
  clear H B
  cases hb : decB x
  · rw [hb] at HS
    simp only [Bool.false_eq_true, false_and, if_false]
    generalize decV x = z at *
    clear hb hz0
    go_enter Tryd.func53, Tryd.ntmps53
    go_wp2_with (go_at_call 54; refine HS.out.mono ?_; rintro e w1 ⟨rfl, g1⟩; have B1 := HB.out _ g1; have K1 := HH.out.on (gr_of_below g1); have b1 := B1.cf; have G1 : GD n0 D w w1 := GD.of (gr_of_below g1); replace K1 := hide K1; replace G1 := hide G1; clear g1 B1)
    go_ret
    exact ⟨rfl, K1.out, G1.out⟩
  · rw [hb] at HS
    generalize decV x = z at *
    clear hb
    by_cases hm : z ≤ 4294967295
    · rw [if_pos ⟨rfl, hm⟩]
      have hmi : ¬ (4294967295 : Int) < z := by omega
      have HC := hide (fun (w1 : World) (K1 : Dr wB n0 D w1 d) (B1 : NumBox w1 n0 D 3 49 g f p q) => keep3_any K1 B1.cq z ⟨hz0, hm⟩)
      clear hm hz0
      go_enter Tryd.func53, Tryd.ntmps53
      go_wp2_with (first
        | (go_at_call 54; refine HS.out.mono ?_; rintro e w1 ⟨rfl, g1⟩; have B1 := HB.out _ g1; have K1 := HH.out.on (gr_of_below g1); have b1 := B1.cf; have b2 := B1.cg; have b3 := B1.cp; rw [em] at b2; have G1 : GD n0 D w w1 := GD.of (gr_of_below g1); have C1 := hide (HC.out _ K1 B1); replace G1 := hide G1; clear g1 B1 K1)
        | (go_at_call 49; refine C1.out.mono ?_; rintro e w2 ⟨⟨v, rfl⟩, K2, G2⟩; replace K2 := hide K2; replace G2 := hide (G1.out.trans G2)))
      go_ret
      exact ⟨rfl, K2.out, G2.out⟩
    · rw [if_neg (fun h => hm h.2)]
      have hmi : (4294967295 : Int) < z := by omega
      clear hm hz0
      go_enter Tryd.func53, Tryd.ntmps53
      go_wp2_with (go_at_call 54; refine HS.out.mono ?_; rintro e w1 ⟨rfl, g1⟩; have B1 := HB.out _ g1; have K1 := HH.out.on (gr_of_below g1); have b1 := B1.cf; have b2 := B1.cg; rw [em] at b2; have G1 : GD n0 D w w1 := GD.of (gr_of_below g1); replace K1 := hide K1; replace G1 := hide G1; clear g1 B1)
      go_ret
      exact ⟨rfl, K1.out, G1.out⟩
set_option maxRecDepth 100000 in
set_option maxHeartbeats 2000000 in
theorem dec4_any (hL : Laid wB) (H : Dr wB n0 D w d) (B : NumBox w n0 D 4 50 g f p q) (hx : x.length ≤ 140737488351232) : Calls Tryd.prog 53 #[.string (mkB x), .pointer (some ⟨g, 0, none⟩), .pointer (some ⟨f, 0, none⟩), .pointer (some ⟨p, 0, none⟩)] w fun e w' => ReadEnd wB n0 D w (readW 4 d x) e w' := by
  have HS := hide (decimal_any (mkB x) (by rw [size_mk]; exact hx) w (H.laid hL))
  rw [list_mk] at HS
  rw [read_num 4 (by decide) (by decide)]
  have hz0 := decV_pos x
  have ek : keepK 4 d (decV x).toNat = (let z := decV x; { d with size := z, sized := true }) := by
    show _ = _
    unfold keepK
    simp only [Int.toNat_of_nonneg hz0]
    rfl
  rw [ek]
  clear ek
  have em : (mostK 4 : Int) = 18446744073709551615 := by decide
  rw [em]
  have HH := hide H
  have HB := hide (fun (w1 : World) (g1 : Below w.heap.size w w1) => B.on H.sz (GD.of (gr_of_below g1)))
  clear H B
  cases hb : decB x
  · rw [hb] at HS
    simp only [Bool.false_eq_true, false_and, if_false]
    generalize decV x = z at *
    clear hb hz0
    go_enter Tryd.func53, Tryd.ntmps53
    go_wp2_with (go_at_call 54; refine HS.out.mono ?_; rintro e w1 ⟨rfl, g1⟩; have B1 := HB.out _ g1; have K1 := HH.out.on (gr_of_below g1); have b1 := B1.cf; have G1 : GD n0 D w w1 := GD.of (gr_of_below g1); replace K1 := hide K1; replace G1 := hide G1; clear g1 B1)
    go_ret
    exact ⟨rfl, K1.out, G1.out⟩
  · rw [hb] at HS
    generalize decV x = z at *
    clear hb
    by_cases hm : z ≤ 18446744073709551615
    · rw [if_pos ⟨rfl, hm⟩]
      have hmi : ¬ (18446744073709551615 : Int) < z := by omega
      have HC := hide (fun (w1 : World) (K1 : Dr wB n0 D w1 d) (B1 : NumBox w1 n0 D 4 50 g f p q) => keep4_any K1 B1.cq B1.ne.2.2.2 z)
      clear hm hz0
      go_enter Tryd.func53, Tryd.ntmps53
      go_wp2_with (first
        | (go_at_call 54; refine HS.out.mono ?_; rintro e w1 ⟨rfl, g1⟩; have B1 := HB.out _ g1; have K1 := HH.out.on (gr_of_below g1); have b1 := B1.cf; have b2 := B1.cg; have b3 := B1.cp; rw [em] at b2; have G1 : GD n0 D w w1 := GD.of (gr_of_below g1); have C1 := hide (HC.out _ K1 B1); replace G1 := hide G1; clear g1 B1 K1)
        | (go_at_call 50; refine C1.out.mono ?_; rintro e w2 ⟨⟨v, rfl⟩, K2, G2⟩; replace K2 := hide K2; replace G2 := hide (G1.out.trans G2)))
      go_ret
      exact ⟨rfl, K2.out, G2.out⟩
    · rw [if_neg (fun h => hm h.2)]
      have hmi : (18446744073709551615 : Int) < z := by omega
      clear hm hz0
      go_enter Tryd.func53, Tryd.ntmps53
      go_wp2_with (go_at_call 54; refine HS.out.mono ?_; rintro e w1 ⟨rfl, g1⟩; have B1 := HB.out _ g1; have K1 := HH.out.on (gr_of_below g1); have b1 := B1.cf; have b2 := B1.cg; rw [em] at b2; have G1 : GD n0 D w w1 := GD.of (gr_of_below g1); replace K1 := hide K1; replace G1 := hide G1; clear g1 B1)
      go_ret
      exact ⟨rfl, K1.out, G1.out⟩
set_option maxRecDepth 100000 in
set_option maxHeartbeats 2000000 in
theorem dec5_any (hL : Laid wB) (H : Dr wB n0 D w d) (B : NumBox w n0 D 5 51 g f p q) (hx : x.length ≤ 140737488351232) : Calls Tryd.prog 53 #[.string (mkB x), .pointer (some ⟨g, 0, none⟩), .pointer (some ⟨f, 0, none⟩), .pointer (some ⟨p, 0, none⟩)] w fun e w' => ReadEnd wB n0 D w (readW 5 d x) e w' := by
  have HS := hide (decimal_any (mkB x) (by rw [size_mk]; exact hx) w (H.laid hL))
  rw [list_mk] at HS
  rw [read_num 5 (by decide) (by decide)]
  have hz0 := decV_pos x
  have ek : keepK 5 d (decV x).toNat = (let z := decV x; { d with cas := z }) := by
    show _ = _
    unfold keepK
    simp only [Int.toNat_of_nonneg hz0]
    rfl
  rw [ek]
  clear ek
  have em : (mostK 5 : Int) = 18446744073709551615 := by decide
  rw [em]
  have HH := hide H
  have HB := hide (fun (w1 : World) (g1 : Below w.heap.size w w1) => B.on H.sz (GD.of (gr_of_below g1)))
  clear H B
  cases hb : decB x
  · rw [hb] at HS
    simp only [Bool.false_eq_true, false_and, if_false]
    generalize decV x = z at *
    clear hb hz0
    go_enter Tryd.func53, Tryd.ntmps53
    go_wp2_with (go_at_call 54; refine HS.out.mono ?_; rintro e w1 ⟨rfl, g1⟩; have B1 := HB.out _ g1; have K1 := HH.out.on (gr_of_below g1); have b1 := B1.cf; have G1 : GD n0 D w w1 := GD.of (gr_of_below g1); replace K1 := hide K1; replace G1 := hide G1; clear g1 B1)
    go_ret
    exact ⟨rfl, K1.out, G1.out⟩
  · rw [hb] at HS
    generalize decV x = z at *
    clear hb
    by_cases hm : z ≤ 18446744073709551615
    · rw [if_pos ⟨rfl, hm⟩]
      have hmi : ¬ (18446744073709551615 : Int) < z := by omega
      have HC := hide (fun (w1 : World) (K1 : Dr wB n0 D w1 d) (B1 : NumBox w1 n0 D 5 51 g f p q) => keep5_any K1 B1.cq z)
      clear hm hz0
      go_enter Tryd.func53, Tryd.ntmps53
      go_wp2_with (first
        | (go_at_call 54; refine HS.out.mono ?_; rintro e w1 ⟨rfl, g1⟩; have B1 := HB.out _ g1; have K1 := HH.out.on (gr_of_below g1); have b1 := B1.cf; have b2 := B1.cg; have b3 := B1.cp; rw [em] at b2; have G1 : GD n0 D w w1 := GD.of (gr_of_below g1); have C1 := hide (HC.out _ K1 B1); replace G1 := hide G1; clear g1 B1 K1)
        | (go_at_call 51; refine C1.out.mono ?_; rintro e w2 ⟨⟨v, rfl⟩, K2, G2⟩; replace K2 := hide K2; replace G2 := hide (G1.out.trans G2)))
      go_ret
      exact ⟨rfl, K2.out, G2.out⟩
    · rw [if_neg (fun h => hm h.2)]
      have hmi : (18446744073709551615 : Int) < z := by omega
      clear hm hz0
      go_enter Tryd.func53, Tryd.ntmps53
      go_wp2_with (go_at_call 54; refine HS.out.mono ?_; rintro e w1 ⟨rfl, g1⟩; have B1 := HB.out _ g1; have K1 := HH.out.on (gr_of_below g1); have b1 := B1.cf; have b2 := B1.cg; rw [em] at b2; have G1 : GD n0 D w w1 := GD.of (gr_of_below g1); replace K1 := hide K1; replace G1 := hide G1; clear g1 B1)
      go_ret
      exact ⟨rfl, K1.out, G1.out⟩
end
end Go.Proofs.YthofdmepofepgaaDoor
