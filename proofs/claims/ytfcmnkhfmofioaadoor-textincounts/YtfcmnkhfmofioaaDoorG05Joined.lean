/- How package textin reads a number. Conditions: the listed variables hold what the program's text lays; words of at most 140737488351232 bytes. How package textin chooses the readings of a line's words: decimal, keys, storing, parts. Conditions: none. A range over a function that itself ranges over another function: the loop's law, and the iterator's contract that it asks. Our own, over the library's rule for one such loop: what a caller keeps in mind must outlast the inner loop's records too, so the contract hands the iterator a word that does. Conditions: the body writes no block that was laid since its loop began. -/
import Derived.Test.YtfcmnkhfmofioaaDoorG04Joined
import Derived.RangeFuncNested
import Derived.RangeFuncBound
import Derived.RangeFuncCalls
import Derived.RangeFuncLeaves
import Derived.RangeFuncBox
import Derived.Shelf.Abstract
import Derived.Shelf.RegionOpen
import Derived.OwnWalkIn
import Derived.TacticsInMore
import Derived.LoopNIn
import Derived.LoopIn
import Derived.Test.YtfcmnkhfmofioaaDoorG00Joined
namespace Go.Proofs.YtfcmnkhfmofioaaDoor
set_option linter.unusedVariables false
open Go.RowKit

/-- What a reading of a number has captured: the greatest that may be, its fault, and how it is kept (with the draft's address). -/
structure NumBox (w : World) (n0 D k fk g f p q : Nat) : Prop where
  cg : w.cell? ⟨g, 0, none⟩ = some (.int .u64 (mostK k : Int))
  cf : w.cell? ⟨f, 0, none⟩ = some (.string (mkB (faultK k)))
  cp : w.cell? ⟨p, 0, none⟩ = some (.func (.func fk) #[] #[.pointer (some ⟨q, 0, none⟩)])
  cq : w.cell? ⟨q, 0, none⟩ = some (.pointer (some ⟨D, 0, none⟩))
  lt : g < n0 ∧ f < n0 ∧ p < n0 ∧ q < n0
  ne : g ≠ D ∧ f ≠ D ∧ p ≠ D ∧ q ≠ D
section
variable {wB w w' : World} {n0 D k fk g f p q : Nat} {d : Dv} {x : List UInt8}
theorem NumBox.on (h : NumBox w n0 D k fk g f p q) (hn : n0 ≤ w.heap.size) (hg : GD n0 D w w') : NumBox w' n0 D k fk g f p q := by
  obtain ⟨l1, l2, l3, l4⟩ := h.lt
  obtain ⟨m1, m2, m3, m4⟩ := h.ne
  have key : ∀ b, b < n0 → b ≠ D → ∀ v, w.cell? ⟨b, 0, none⟩ = some v → w'.cell? ⟨b, 0, none⟩ = some v := fun b hb hne v hv => (World.cell?_of_block (hg.block b (by omega) (by omega))).trans hv
  exact ⟨key g l1 m1 _ h.cg, key f l2 m2 _ h.cf, key p l3 m3 _ h.cp, key q l4 m4 _ h.cq, h.lt, h.ne⟩
theorem gr_drew (w : World) : w.grownBy w.drew none := ⟨rfl, rfl, rfl, Nat.le_refl _, fun _ _ _ => rfl⟩
/-- What a keeping does. -/
def KeepEnd (wB : World) (n0 D : Nat) (w : World) (d' : Dv) (e : Ending) (w' : World) : Prop := (∃ v, e = .returned v) ∧ Dr wB n0 D w' d' ∧ GD n0 D w w'
set_option maxRecDepth 100000 in
set_option maxHeartbeats 1000000 in
theorem keep2_any (H : Dr wB n0 D w d) (cq : w.cell? ⟨q, 0, none⟩ = some (.pointer (some ⟨D, 0, none⟩))) (z : Int) : Calls Tryd.prog 59 #[.int .u64 z, .pointer (some ⟨q, 0, none⟩)] w fun e w' => KeepEnd wB n0 D w { d with del := z } e w' := by
  obtain ⟨a, c, h1, h2⟩ := H.st
  have q1 := dr_del h1
  have q2 := dr_frozen h1 16
  have HK := hide (H.set (d' := { d with del := z }) h1 h2 16 (.int .u64 z) rfl rfl (set_del _ _ _ _ _ _))
  clear H h1 h2
  go_enter Tryd.func59, Tryd.ntmps59
  go_wp2
  go_end0
  exact ⟨⟨_, rfl⟩, HK.out⟩
set_option maxRecDepth 100000 in
set_option maxHeartbeats 1000000 in
theorem keep3_any (H : Dr wB n0 D w d) (cq : w.cell? ⟨q, 0, none⟩ = some (.pointer (some ⟨D, 0, none⟩))) (z : Int) (hz : 0 ≤ z ∧ z ≤ 4294967295) : Calls Tryd.prog 62 #[.int .u64 z, .pointer (some ⟨q, 0, none⟩)] w fun e w' => KeepEnd wB n0 D w { d with fl := z } e w' := by
  obtain ⟨a, c, h1, h2⟩ := H.st
  have q1 := dr_fl h1
  have q2 := dr_frozen h1 13
  have HK := hide (H.set (d' := { d with fl := z }) h1 h2 13 (.int .u32 z) rfl rfl (set_fl _ _ _ _ _ _))
  have e1 : z % 4294967296 = z := by omega
  clear H h1 h2
  go_enter Tryd.func62, Tryd.ntmps62
  go_wp2
  go_end0
  exact ⟨⟨_, rfl⟩, HK.out⟩
set_option maxRecDepth 100000 in
set_option maxHeartbeats 1000000 in
theorem keep5_any (H : Dr wB n0 D w d) (cq : w.cell? ⟨q, 0, none⟩ = some (.pointer (some ⟨D, 0, none⟩))) (z : Int) : Calls Tryd.prog 64 #[.int .u64 z, .pointer (some ⟨q, 0, none⟩)] w fun e w' => KeepEnd wB n0 D w { d with cas := z } e w' := by
  obtain ⟨a, c, h1, h2⟩ := H.st
  have q1 := dr_cas h1
  have q2 := dr_frozen h1 15
  have HK := hide (H.set (d' := { d with cas := z }) h1 h2 15 (.int .u64 z) rfl rfl (set_cas _ _ _ _ _ _))
  clear H h1 h2
  go_enter Tryd.func64, Tryd.ntmps64
  go_wp2
  go_end0
  exact ⟨⟨_, rfl⟩, HK.out⟩
set_option maxRecDepth 100000 in
set_option maxHeartbeats 1000000 in
theorem keep4_any (H : Dr wB n0 D w d) (cq : w.cell? ⟨q, 0, none⟩ = some (.pointer (some ⟨D, 0, none⟩))) (hq : q ≠ D) (z : Int) : Calls Tryd.prog 63 #[.int .u64 z, .pointer (some ⟨q, 0, none⟩)] w fun e w' => KeepEnd wB n0 D w { d with size := z, sized := true } e w' := by
  obtain ⟨a, c, h1, h2⟩ := H.st
  have q1 := dr_size h1
  have q2 := dr_frozen h1 20
  have q3 := dr_sized h1
  have q4 := dr_frozen h1 21
  obtain ⟨K1, G1⟩ := H.set (d' := { d with size := z }) h1 h2 20 (.int .u64 z) rfl rfl (set_size _ _ _ _ _ _)
  obtain ⟨a1, c1, p1, p2⟩ := K1.st
  obtain ⟨K2, G2⟩ := K1.set (d' := { d with size := z, sized := true }) p1 p2 21 (.bool true) rfl rfl (set_sized _ _ _ _ _ _)
  have HK := hide (And.intro K2 (G1.trans G2))
  clear H h1 h2 K1 K2 G1 G2 p1 p2
  go_enter Tryd.func63, Tryd.ntmps63
  go_wp2
  go_region
  go_wp2
  go_end0
  exact ⟨⟨_, rfl⟩, HK.out.1.on (gr_drew _), HK.out.2.trans (GD.of (gr_drew _))⟩
theorem read_num (k : Nat) (h0 : k ≠ 0) (h1 : k ≠ 1) : readW k d x = if decB x = true ∧ decV x ≤ (mostK k : Int) then (keepK k d (decV x).toNat, []) else (d, faultK k) := by
  unfold readW decB decV
  rw [if_neg h0, if_neg h1]
  cases hd : dec x with
  | none => simp
  | some u =>
    simp only [Option.getD_some, Option.isSome_some, true_and, Int.toNat_natCast]
    by_cases hu : u ≤ mostK k
    · rw [if_pos hu, if_pos (by omega)]
    · rw [if_neg hu, if_neg (by omega)]
theorem decV_pos (x : List UInt8) : 0 ≤ decV x := by unfold decV; omega
set_option maxRecDepth 100000 in
set_option maxHeartbeats 2000000 in
theorem dec2_any (hL : Laid wB) (H : Dr wB n0 D w d) (B : NumBox w n0 D 2 59 g f p q) (hx : x.length ≤ 140737488351232) : Calls Tryd.prog 66 #[.string (mkB x), .pointer (some ⟨g, 0, none⟩), .pointer (some ⟨f, 0, none⟩), .pointer (some ⟨p, 0, none⟩)] w fun e w' => ReadEnd wB n0 D w (readW 2 d x) e w' := by
  have HS := hide (decimal_any (mkB x) (by rw [size_mk]; exact hx) w (H.laid hL))
  rw [list_mk] at HS
  rw [read_num 2 (by decide) (by decide)]
  have hz0 := decV_pos x
  have ek : keepK 2 d (decV x).toNat = (let z := decV x; { d with del := z }) := by
    show _ = _
    unfold keepK
    simp only [Int.toNat_of_nonneg hz0]
    rfl
  rw [ek]
  clear ek
  have em : (mostK 2 : Int) = 18446744073709551615 := by decide
  rw [em]
  have HH := hide H
  have HB := hide (fun (w1 : World) (g1 : Below w.heap.size w w1) => B.on H.sz (GD.of (gr_of_below g1)))
  clear H B
  cases hb : decB x
  · rw [hb] at HS
    simp only [Bool.false_eq_true, false_and, if_false]
    generalize decV x = z at *
    clear hb hz0
    go_enter Tryd.func66, Tryd.ntmps66
    go_wp2_with (go_at_call 67; refine HS.out.mono ?_; rintro e w1 ⟨rfl, g1⟩; have B1 := HB.out _ g1; have K1 := HH.out.on (gr_of_below g1); have b1 := B1.cf; have G1 : GD n0 D w w1 := GD.of (gr_of_below g1); replace K1 := hide K1; replace G1 := hide G1; clear g1 B1)
    go_ret
    exact ⟨rfl, K1.out, G1.out⟩
  · rw [hb] at HS
    generalize decV x = z at *
    clear hb
    by_cases hm : z ≤ 18446744073709551615
    · rw [if_pos ⟨rfl, hm⟩]
      have hmi : ¬ (18446744073709551615 : Int) < z := by omega
      have HC := hide (fun (w1 : World) (K1 : Dr wB n0 D w1 d) (B1 : NumBox w1 n0 D 2 59 g f p q) => keep2_any K1 B1.cq z)
      clear hm hz0
      go_enter Tryd.func66, Tryd.ntmps66
      go_wp2_with (first
        | (go_at_call 67; refine HS.out.mono ?_; rintro e w1 ⟨rfl, g1⟩; have B1 := HB.out _ g1; have K1 := HH.out.on (gr_of_below g1); have b1 := B1.cf; have b2 := B1.cg; have b3 := B1.cp; rw [em] at b2; have G1 : GD n0 D w w1 := GD.of (gr_of_below g1); have C1 := hide (HC.out _ K1 B1); replace G1 := hide G1; clear g1 B1 K1)
        | (go_at_call 59; refine C1.out.mono ?_; rintro e w2 ⟨⟨v, rfl⟩, K2, G2⟩; replace K2 := hide K2; replace G2 := hide (G1.out.trans G2)))
      go_ret
      exact ⟨rfl, K2.out, G2.out⟩
    · rw [if_neg (fun h => hm h.2)]
      have hmi : (18446744073709551615 : Int) < z := by omega
      clear hm hz0
      go_enter Tryd.func66, Tryd.ntmps66
      go_wp2_with (go_at_call 67; refine HS.out.mono ?_; rintro e w1 ⟨rfl, g1⟩; have B1 := HB.out _ g1; have K1 := HH.out.on (gr_of_below g1); have b1 := B1.cf; have b2 := B1.cg; rw [em] at b2; have G1 : GD n0 D w w1 := GD.of (gr_of_below g1); replace K1 := hide K1; replace G1 := hide G1; clear g1 B1)
      go_ret
      exact ⟨rfl, K1.out, G1.out⟩
set_option maxRecDepth 100000 in
set_option maxHeartbeats 2000000 in
theorem dec3_any (hL : Laid wB) (H : Dr wB n0 D w d) (B : NumBox w n0 D 3 62 g f p q) (hx : x.length ≤ 140737488351232) : Calls Tryd.prog 66 #[.string (mkB x), .pointer (some ⟨g, 0, none⟩), .pointer (some ⟨f, 0, none⟩), .pointer (some ⟨p, 0, none⟩)] w fun e w' => ReadEnd wB n0 D w (readW 3 d x) e w' := by
  have HS := hide (decimal_any (mkB x) (by rw [size_mk]; exact hx) w (H.laid hL))
  rw [list_mk] at HS
  rw [read_num 3 (by decide) (by decide)]
  have hz0 := decV_pos x
  have ek : keepK 3 d (decV x).toNat = (let z := decV x; { d with fl := z }) := by
    show _ = _
    unfold keepK
    simp only [Int.toNat_of_nonneg hz0]
    rfl
  rw [ek]
  clear ek
  have em : (mostK 3 : Int) = 4294967295 := by decide
  rw [em]
  have HH := hide H
  have HB := hide (fun (w1 : World) (g1 : Below w.heap.size w w1) => B.on H.sz (GD.of (gr_of_below g1)))
  clear H B
  cases hb : decB x
  · rw [hb] at HS
    simp only [Bool.false_eq_true, false_and, if_false]
    generalize decV x = z at *
    clear hb hz0
    go_enter Tryd.func66, Tryd.ntmps66
    go_wp2_with (go_at_call 67; refine HS.out.mono ?_; rintro e w1 ⟨rfl, g1⟩; have B1 := HB.out _ g1; have K1 := HH.out.on (gr_of_below g1); have b1 := B1.cf; have G1 : GD n0 D w w1 := GD.of (gr_of_below g1); replace K1 := hide K1; replace G1 := hide G1; clear g1 B1)
    go_ret
    exact ⟨rfl, K1.out, G1.out⟩
  · rw [hb] at HS
    generalize decV x = z at *
    clear hb
    by_cases hm : z ≤ 4294967295
    · rw [if_pos ⟨rfl, hm⟩]
      have hmi : ¬ (4294967295 : Int) < z := by omega
      have HC := hide (fun (w1 : World) (K1 : Dr wB n0 D w1 d) (B1 : NumBox w1 n0 D 3 62 g f p q) => keep3_any K1 B1.cq z ⟨hz0, hm⟩)
      clear hm hz0
      go_enter Tryd.func66, Tryd.ntmps66
      go_wp2_with (first
        | (go_at_call 67; refine HS.out.mono ?_; rintro e w1 ⟨rfl, g1⟩; have B1 := HB.out _ g1; have K1 := HH.out.on (gr_of_below g1); have b1 := B1.cf; have b2 := B1.cg; have b3 := B1.cp; rw [em] at b2; have G1 : GD n0 D w w1 := GD.of (gr_of_below g1); have C1 := hide (HC.out _ K1 B1); replace G1 := hide G1; clear g1 B1 K1)
        | (go_at_call 62; refine C1.out.mono ?_; rintro e w2 ⟨⟨v, rfl⟩, K2, G2⟩; replace K2 := hide K2; replace G2 := hide (G1.out.trans G2)))
      go_ret
      exact ⟨rfl, K2.out, G2.out⟩
    · rw [if_neg (fun h => hm h.2)]
      have hmi : (4294967295 : Int) < z := by omega
      clear hm hz0
      go_enter Tryd.func66, Tryd.ntmps66
      go_wp2_with (go_at_call 67; refine HS.out.mono ?_; rintro e w1 ⟨rfl, g1⟩; have B1 := HB.out _ g1; have K1 := HH.out.on (gr_of_below g1); have b1 := B1.cf; have b2 := B1.cg; rw [em] at b2; have G1 : GD n0 D w w1 := GD.of (gr_of_below g1); replace K1 := hide K1; replace G1 := hide G1; clear g1 B1)
      go_ret
      exact ⟨rfl, K1.out, G1.out⟩
set_option maxRecDepth 100000 in
set_option maxHeartbeats 2000000 in
theorem dec4_any (hL : Laid wB) (H : Dr wB n0 D w d) (B : NumBox w n0 D 4 63 g f p q) (hx : x.length ≤ 140737488351232) : Calls Tryd.prog 66 #[.string (mkB x), .pointer (some ⟨g, 0, none⟩), .pointer (some ⟨f, 0, none⟩), .pointer (some ⟨p, 0, none⟩)] w fun e w' => ReadEnd wB n0 D w (readW 4 d x) e w' := by
  have HS := hide (decimal_any (mkB x) (by rw [size_mk]; exact hx) w (H.laid hL))
  rw [list_mk] at HS
  rw [read_num 4 (by decide) (by decide)]
  have hz0 := decV_pos x
  have ek : keepK 4 d (decV x).toNat = (let z := decV x; { d with size := z, sized := true }) := by
    show _ = _
    unfold keepK
    simp only [Int.toNat_of_nonneg hz0]
    rfl
  rw [ek]
  clear ek
  have em : (mostK 4 : Int) = 18446744073709551615 := by decide
  rw [em]
  have HH := hide H
  have HB := hide (fun (w1 : World) (g1 : Below w.heap.size w w1) => B.on H.sz (GD.of (gr_of_below g1)))
  clear H B
  cases hb : decB x
  · rw [hb] at HS
    simp only [Bool.false_eq_true, false_and, if_false]
    generalize decV x = z at *
    clear hb hz0
    go_enter Tryd.func66, Tryd.ntmps66
    go_wp2_with (go_at_call 67; refine HS.out.mono ?_; rintro e w1 ⟨rfl, g1⟩; have B1 := HB.out _ g1; have K1 := HH.out.on (gr_of_below g1); have b1 := B1.cf; have G1 : GD n0 D w w1 := GD.of (gr_of_below g1); replace K1 := hide K1; replace G1 := hide G1; clear g1 B1)
    go_ret
    exact ⟨rfl, K1.out, G1.out⟩
  · rw [hb] at HS
    generalize decV x = z at *
    clear hb
    by_cases hm : z ≤ 18446744073709551615
    · rw [if_pos ⟨rfl, hm⟩]
      have hmi : ¬ (18446744073709551615 : Int) < z := by omega
      have HC := hide (fun (w1 : World) (K1 : Dr wB n0 D w1 d) (B1 : NumBox w1 n0 D 4 63 g f p q) => keep4_any K1 B1.cq B1.ne.2.2.2 z)
      clear hm hz0
      go_enter Tryd.func66, Tryd.ntmps66
      go_wp2_with (first
        | (go_at_call 67; refine HS.out.mono ?_; rintro e w1 ⟨rfl, g1⟩; have B1 := HB.out _ g1; have K1 := HH.out.on (gr_of_below g1); have b1 := B1.cf; have b2 := B1.cg; have b3 := B1.cp; rw [em] at b2; have G1 : GD n0 D w w1 := GD.of (gr_of_below g1); have C1 := hide (HC.out _ K1 B1); replace G1 := hide G1; clear g1 B1 K1)
        | (go_at_call 63; refine C1.out.mono ?_; rintro e w2 ⟨⟨v, rfl⟩, K2, G2⟩; replace K2 := hide K2; replace G2 := hide (G1.out.trans G2)))
      go_ret
      exact ⟨rfl, K2.out, G2.out⟩
    · rw [if_neg (fun h => hm h.2)]
      have hmi : (18446744073709551615 : Int) < z := by omega
      clear hm hz0
      go_enter Tryd.func66, Tryd.ntmps66
      go_wp2_with (go_at_call 67; refine HS.out.mono ?_; rintro e w1 ⟨rfl, g1⟩; have B1 := HB.out _ g1; have K1 := HH.out.on (gr_of_below g1); have b1 := B1.cf; have b2 := B1.cg; rw [em] at b2; have G1 : GD n0 D w w1 := GD.of (gr_of_below g1); replace K1 := hide K1; replace G1 := hide G1; clear g1 B1)
      go_ret
      exact ⟨rfl, K1.out, G1.out⟩
set_option maxRecDepth 100000 in
set_option maxHeartbeats 2000000 in
theorem dec5_any (hL : Laid wB) (H : Dr wB n0 D w d) (B : NumBox w n0 D 5 64 g f p q) (hx : x.length ≤ 140737488351232) : Calls Tryd.prog 66 #[.string (mkB x), .pointer (some ⟨g, 0, none⟩), .pointer (some ⟨f, 0, none⟩), .pointer (some ⟨p, 0, none⟩)] w fun e w' => ReadEnd wB n0 D w (readW 5 d x) e w' := by
  have HS := hide (decimal_any (mkB x) (by rw [size_mk]; exact hx) w (H.laid hL))
  rw [list_mk] at HS
  rw [read_num 5 (by decide) (by decide)]
  have hz0 := decV_pos x
  have ek : keepK 5 d (decV x).toNat = (let z := decV x; { d with cas := z }) := by
    show _ = _
    unfold keepK
    simp only [Int.toNat_of_nonneg hz0]
    rfl
  rw [ek]
  clear ek
  have em : (mostK 5 : Int) = 18446744073709551615 := by decide
  rw [em]
  have HH := hide H
  have HB := hide (fun (w1 : World) (g1 : Below w.heap.size w w1) => B.on H.sz (GD.of (gr_of_below g1)))
  clear H B
  cases hb : decB x
  · rw [hb] at HS
    simp only [Bool.false_eq_true, false_and, if_false]
    generalize decV x = z at *
    clear hb hz0
    go_enter Tryd.func66, Tryd.ntmps66
    go_wp2_with (go_at_call 67; refine HS.out.mono ?_; rintro e w1 ⟨rfl, g1⟩; have B1 := HB.out _ g1; have K1 := HH.out.on (gr_of_below g1); have b1 := B1.cf; have G1 : GD n0 D w w1 := GD.of (gr_of_below g1); replace K1 := hide K1; replace G1 := hide G1; clear g1 B1)
    go_ret
    exact ⟨rfl, K1.out, G1.out⟩
  · rw [hb] at HS
    generalize decV x = z at *
    clear hb
    by_cases hm : z ≤ 18446744073709551615
    · rw [if_pos ⟨rfl, hm⟩]
      have hmi : ¬ (18446744073709551615 : Int) < z := by omega
      have HC := hide (fun (w1 : World) (K1 : Dr wB n0 D w1 d) (B1 : NumBox w1 n0 D 5 64 g f p q) => keep5_any K1 B1.cq z)
      clear hm hz0
      go_enter Tryd.func66, Tryd.ntmps66
      go_wp2_with (first
        | (go_at_call 67; refine HS.out.mono ?_; rintro e w1 ⟨rfl, g1⟩; have B1 := HB.out _ g1; have K1 := HH.out.on (gr_of_below g1); have b1 := B1.cf; have b2 := B1.cg; have b3 := B1.cp; rw [em] at b2; have G1 : GD n0 D w w1 := GD.of (gr_of_below g1); have C1 := hide (HC.out _ K1 B1); replace G1 := hide G1; clear g1 B1 K1)
        | (go_at_call 64; refine C1.out.mono ?_; rintro e w2 ⟨⟨v, rfl⟩, K2, G2⟩; replace K2 := hide K2; replace G2 := hide (G1.out.trans G2)))
      go_ret
      exact ⟨rfl, K2.out, G2.out⟩
    · rw [if_neg (fun h => hm h.2)]
      have hmi : (18446744073709551615 : Int) < z := by omega
      clear hm hz0
      go_enter Tryd.func66, Tryd.ntmps66
      go_wp2_with (go_at_call 67; refine HS.out.mono ?_; rintro e w1 ⟨rfl, g1⟩; have B1 := HB.out _ g1; have K1 := HH.out.on (gr_of_below g1); have b1 := B1.cf; have b2 := B1.cg; rw [em] at b2; have G1 : GD n0 D w w1 := GD.of (gr_of_below g1); replace K1 := hide K1; replace G1 := hide G1; clear g1 B1)
      go_ret
      exact ⟨rfl, K1.out, G1.out⟩
end
end Go.Proofs.YtfcmnkhfmofioaaDoor

namespace Go.Proofs.YtfcmnkhfmofioaaDoor
set_option linter.unusedVariables false
open Go.RowKit

def keyV (D : Nat) : Value := .func (.func 57) #[.pointer (some ⟨D, 0, none⟩)] #[]
def expV (D : Nat) : Value := .func (.func 55) #[.pointer (some ⟨D, 0, none⟩)] #[]
def numV (g f p : Nat) : Value := .func (.func 66) #[] #[.pointer (some ⟨g, 0, none⟩), .pointer (some ⟨f, 0, none⟩), .pointer (some ⟨p, 0, none⟩)]
def keepF (k : Nat) : Nat := if k = 2 then 59 else if k = 3 then 62 else if k = 4 then 63 else 64
def keepV (k q : Nat) : Value := .func (.func (keepF k)) #[] #[.pointer (some ⟨q, 0, none⟩)]
/-- A value that is the reading of kind k. -/
def IsRd (w : World) (n0 D k : Nat) (v : Value) : Prop := (k = 0 ∧ v = keyV D) ∨ (k = 1 ∧ v = expV D) ∨ (2 ≤ k ∧ k ≤ 5 ∧ ∃ g f p q, v = numV g f p ∧ NumBox w n0 D k (keepF k) g f p q)
theorem info_rd : (Tryd.prog.info? 86).map (fun i => (i.zero, i.size, i.bytes)) = some (some .nilFunc, 1, 8) := by kernel_rfl
section
variable {wB w w' : World} {n0 D k q : Nat} {d : Dv}
/-- What decimal answers: a reading, and what it has captured. -/
def DecEnd (z : Int) (fl : ByteArray) (hk q : Nat) (w : World) (e : Ending) (w' : World) : Prop := ∃ g f p, e = .returned (.func (.func 66) #[] #[.pointer (some ⟨g, 0, none⟩), .pointer (some ⟨f, 0, none⟩), .pointer (some ⟨p, 0, none⟩)]) ∧ w.grownBy w' none ∧ (w.heap.size ≤ g ∧ w.heap.size ≤ f ∧ w.heap.size ≤ p ∧ g < w'.heap.size ∧ f < w'.heap.size ∧ p < w'.heap.size ∧
    w'.cell? ⟨g, 0, none⟩ = some (.int .u64 z) ∧ w'.cell? ⟨f, 0, none⟩ = some (.string fl) ∧ w'.cell? ⟨p, 0, none⟩ = some (.func (.func hk) #[] #[.pointer (some ⟨q, 0, none⟩)]))
set_option maxRecDepth 100000 in
set_option maxHeartbeats 1000000 in
theorem tdec_any (z : Int) (fl : ByteArray) (hk q : Nat) (w : World) : Calls Tryd.prog 58 #[.int .u64 z, .string fl, .func (.func hk) #[] #[.pointer (some ⟨q, 0, none⟩)]] w fun e w' => DecEnd z fl hk q w e w' := by
  have g1 := gr_trans (gr_trans (World.grownBy_alloc w (.cells #[.int .u64 z] 37) none) (World.grownBy_alloc _ (.cells #[.string fl] 9) none)) (World.grownBy_alloc _ (.cells #[.func (.func hk) #[] #[.pointer (some ⟨q, 0, none⟩)]] 93) none)
  have H0 := (((Law.start w).box (.cells #[.int .u64 z] 37)).box (.cells #[.string fl] 9)).box (.cells #[.func (.func hk) #[] #[.pointer (some ⟨q, 0, none⟩)]] 93)
  simp only [World.size_alloc] at H0
  have c1 := H0.q.1
  have c2 := H0.q.2.1.1
  have c3 := H0.q.2.1.2.1.1
  have HG := hide g1
  have HC := hide (And.intro c1 (And.intro c2 c3))
  clear g1 H0 c1 c2 c3
  go_enter Tryd.func58, Tryd.ntmps58
  go_wp2
  go_ret
  refine ⟨_, _, _, rfl, HG.out, ?_⟩
  obtain ⟨c1, c2, c3⟩ := HC.out
  refine ⟨Nat.le_refl _, Nat.le_succ _, by omega, (by rw [World.size_alloc, World.size_alloc, World.size_alloc]; omega), (by rw [World.size_alloc, World.size_alloc, World.size_alloc]; omega), (by rw [World.size_alloc, World.size_alloc, World.size_alloc]; omega), ?_, ?_, ?_⟩
  · exact Boxed.cell c3
  · exact Boxed.cell c2
  · exact Boxed.cell c1
/-- A list of readings, each of its kind. -/
def RdL (w : World) (D : Nat) (ks : List Nat) (xs : List Value) : Prop := xs.length = ks.length ∧ ∀ (i k : Nat) (x : Value), ks[i]? = some k → xs[i]? = some x → IsRd w w.heap.size D k x
theorem IsRd.up {n1 : Nat} {v : Value} (h : IsRd w n0 D k v) (hn : n0 ≤ n1) (hw : n0 ≤ w.heap.size) (hg : w.grownBy w' none) : IsRd w' n1 D k v := by
  rcases h with h | h | ⟨h1, h2, g, f, p, q, h3, B⟩
  · exact .inl h
  · exact .inr (.inl h)
  · have B2 := B.on hw (GD.of (n0 := n0) (D := D) hg)
    have hl := B2.lt
    exact .inr (.inr ⟨h1, h2, g, f, p, q, h3, B2.cg, B2.cf, B2.cp, B2.cq, ⟨by omega, by omega, by omega, by omega⟩, B2.ne⟩)
theorem RdL.on {ks : List Nat} {xs : List Value} (h : RdL w D ks xs) (hg : w.grownBy w' none) : RdL w' D ks xs := ⟨h.1, fun i k x h1 h2 => (h.2 i k x h1 h2).up hg.size (Nat.le_refl _) hg⟩
/-- What was there stays but for the draft: the readings that were there are still. -/
theorem RdL.to {ks : List Nat} {xs : List Value} (h : RdL w D ks xs) (hg : Gr (fun k => k = D ∨ w.heap.size ≤ k) w w') : RdL w' D ks xs := ⟨h.1, fun i k x h1 h2 => by
  rcases h.2 i k x h1 h2 with h | h | ⟨h1, h2, g, f, p, q, h3, B⟩
  · exact .inl h
  · exact .inr (.inl h)
  · have B2 := B.on (Nat.le_refl _) hg
    have hl := B2.lt
    have hs := hg.size
    exact .inr (.inr ⟨h1, h2, g, f, p, q, h3, B2.cg, B2.cf, B2.cp, B2.cq, ⟨by omega, by omega, by omega, by omega⟩, B2.ne⟩)⟩
theorem RdL.nil (w : World) (D : Nat) : RdL w D [] [] := ⟨rfl, fun i k x h => by simp at h⟩
theorem RdL.cons {ks : List Nat} {xs : List Value} {v : Value} (h : RdL w D ks xs) (hv : IsRd w w.heap.size D k v) : RdL w D (k :: ks) (v :: xs) := by
  refine ⟨by simp [h.1], fun i k' x h1 h2 => ?_⟩
  cases i with
  | zero =>
    simp at h1 h2
    subst h1 h2
    exact hv
  | succ i => exact h.2 i k' x (by simpa using h1) (by simpa using h2)
theorem RdL.app {ks ks' : List Nat} {xs xs' : List Value} (h : RdL w D ks xs) (h' : RdL w D ks' xs') : RdL w D (ks ++ ks') (xs ++ xs') := by
  refine ⟨by simp [h.1, h'.1], fun i k' x h1 h2 => ?_⟩
  rcases Nat.lt_or_ge i ks.length with hi | hi
  · exact h.2 i k' x (by rwa [List.getElem?_append_left hi] at h1) (by rwa [List.getElem?_append_left (by rw [h.1]; exact hi)] at h2)
  · exact h'.2 (i - ks.length) k' x (by rwa [List.getElem?_append_right hi] at h1) (by rw [List.getElem?_append_right (by rw [h.1]; exact hi), h.1] at h2; exact h2)
theorem rdKey : IsRd w w.heap.size D 0 (keyV D) := .inl ⟨rfl, rfl⟩
theorem rdExp : IsRd w w.heap.size D 1 (expV D) := .inr (.inl ⟨rfl, rfl⟩)
theorem RdL.keys (w : World) (D : Nat) : ∀ n : Nat, RdL w D (List.replicate n 0) (List.replicate n (keyV D))
  | 0 => RdL.nil w D
  | n + 1 => (RdL.keys w D n).cons rdKey
/-- What decimal answered is the reading of a number. -/
theorem rdNum {z : Int} {fl : ByteArray} {hk g f p n1 : Nat} {w0 : World} (h2 : 2 ≤ k) (h5 : k ≤ 5) (hz : (mostK k : Int) = z) (hf : mkB (faultK k) = fl) (hkf : keepF k = hk) (hD : D < n1) (h1 : n1 ≤ w0.heap.size) (hqn : n1 ≤ q) (hq : q < w.heap.size) (cq : w.cell? ⟨q, 0, none⟩ = some (.pointer (some ⟨D, 0, none⟩)))
    (h : w0.heap.size ≤ g ∧ w0.heap.size ≤ f ∧ w0.heap.size ≤ p ∧ g < w.heap.size ∧ f < w.heap.size ∧ p < w.heap.size ∧ w.cell? ⟨g, 0, none⟩ = some (.int .u64 z) ∧ w.cell? ⟨f, 0, none⟩ = some (.string fl) ∧ w.cell? ⟨p, 0, none⟩ = some (.func (.func hk) #[] #[.pointer (some ⟨q, 0, none⟩)])) : IsRd w w.heap.size D k (numV g f p) := by
  obtain ⟨l1, l2, l3, l4, l5, l6, c1, c2, c3⟩ := h
  refine .inr (.inr ⟨h2, h5, g, f, p, q, rfl, by rw [hz]; exact c1, by rw [hf]; exact c2, by rw [hkf]; exact c3, cq, ⟨l4, l5, l6, hq⟩, ⟨by omega, by omega, by omega, by omega⟩⟩)
/-- A row that was just laid. -/
theorem own_laid {e : TypeId} (w : World) (cs : Array Value) {n : Nat} (hn : cs.size = n) (hm : n ≤ maxLen) : (w.alloc (.cells cs e)).ownsRow w.heap.size e 1 (.slice (some ⟨w.heap.size, 0, none⟩) n n) n cs.toList := by
  refine ⟨by simp [hn], .inr ⟨w.heap.size, n, cs, rfl, Nat.le_refl _, World.alloc_heap_new w _, Nat.le_refl _, hm, ?_, ?_⟩⟩
  · simp [hn]
  · subst hn
    rw [Nat.mul_one, ← Array.length_toList, List.take_length]
set_option maxRecDepth 100000 in
set_option maxHeartbeats 2000000 in
theorem keys_any (D n : Nat) (m : Int) (hm : (max m 1) = (n : Int)) (hn : n ≤ 100000) (w : World) : Calls Tryd.prog 54 #[.pointer (some ⟨D, 0, none⟩), .int .i64 m] w fun e w' => ∃ v, e = .returned v ∧ w'.ownsRow w.heap.size 86 1 v n (List.replicate n (keyV D)) ∧ Below w.heap.size w w' := by
  obtain ⟨i0, hi, hz0, hz1, hz2⟩ := info_parts info_rd
  go_enter Tryd.func54, Tryd.ntmps54
  go_wp2
  clear hm
  go_loopw [5, 8] (fun v i wr => ∃ k : Nat, k ≤ n ∧ i = .int .i64 k ∧ wr.ownsRow w.heap.size 86 1 v k (List.replicate k (keyV D)) ∧ Below w.heap.size w wr) (fun _ i _ => n - (intOf i).toNat)
  case atStart => exact ⟨0, Nat.zero_le _, rfl, World.ownsRow_nil _ _ _ _, Below.refl _ _⟩
  case round =>
    obtain ⟨k, hk, rfl, hown, hnx⟩ := hrel
    by_cases hlt : k < n
    · have hki : (k : Int) < (n : Int) := by omega
      have e1 : wrap64 ((k : Int) + 1) = (k : Int) + 1 := by unfold wrap64; omega
      have HO := hide hown
      have HB := hide hnx
      clear hown hnx
      go_wp2_with (at_builtin; refine wpList_append_own _ rfl _ _ 82 rfl w.heap.size 86 i0 .nilFunc 1 8 Tryd.underlying82 hi hz0 hz1 hz2 rfl (by decide) _ _ _ rfl (HO.out.alloc _) ⟨wr.heap.size, 0, none⟩ 1 1 [keyV D] rfl rfl (cell_one_new _ _ _) (by simp [keyV, Value.oneCell']) (by unfold maxLen; omega) (by omega) (by have := HB.out.size; simp; omega) ?_; intro v' w1 o1 g1 _; have b1 : Below w.heap.size w w1 := (HB.out.alloc HB.out.size _).grown g1 (by have := HB.out.size; simp; omega) (fun b hb => (own_at HO.out hb).1))
      go_roundw
      case rel => exact ⟨k + 1, by omega, by go_num, by rw [List.replicate_succ']; exact o1, b1⟩
      case measure => simp [intOf]; omega
    · obtain rfl : k = n := by omega
      have hki : ¬ (k : Int) < (k : Int) := by omega
      go_wp2
      go_ret
      exact ⟨_, rfl, hown, hnx⟩
end
end Go.Proofs.YtfcmnkhfmofioaaDoor

namespace Go.Proofs.YtfcmnkhfmofioaaDoor
open Go.RowKit Go.Shelf

/-- Whatever lay at block B or beyond lies as it lay. -/
structure Since (B : Nat) (W W' : World) : Prop where
  size : W.heap.size ≤ W'.heap.size
  same : ∀ k, B ≤ k → k < W.heap.size → W'.heap[k]? = W.heap[k]?
theorem Since.refl (B : Nat) (W : World) : Since B W W := ⟨Nat.le_refl _, fun _ _ _ => rfl⟩
theorem Since.trans {B : Nat} {X Y Z : World} (h : Since B X Y) (k : Since B Y Z) : Since B X Z :=
  ⟨Nat.le_trans h.size k.size, fun i hi hl => (k.same i hi (Nat.lt_of_lt_of_le hl h.size)).trans (h.same i hi hl)⟩
theorem Since.mono {B C : Nat} {X Y : World} (h : Since B X Y) (hc : B ≤ C) : Since C X Y := ⟨h.size, fun i hi hl => h.same i (Nat.le_trans hc hi) hl⟩
theorem Since.grown {B : Nat} {X Y : World} {row : Option Nat} (hg : X.grownBy Y row) (hr : ∀ r, row = some r → r < B) : Since B X Y :=
  ⟨hg.size, fun i hi hl => hg.block i hl (fun e => by have := hr i e.symm; omega)⟩
theorem Since.drew (B : Nat) (X : World) : Since B X X.drew := ⟨Nat.le_refl _, fun _ _ _ => rfl⟩
theorem Since.keeps {B C : Nat} {X Y : World} (h : Since B X Y) (hc : B ≤ C) : KeepsFrom C X Y :=
  ⟨h.size, fun k _ hk ho _ => (h.same k (Nat.le_trans hc hk) (Array.getElem?_eq_some_iff.1 ho).1).trans ho⟩
theorem Since.block {B k : Nat} {X Y : World} {o : Obj} (h : Since B X Y) (hk : B ≤ k) (ho : X.heap[k]? = some o) : Y.heap[k]? = some o :=
  (h.same k hk (Array.getElem?_eq_some_iff.1 ho).1).trans ho
theorem Since.boxed {B k : Nat} {X Y : World} {t : TypeId} {v : Value} (h : Since B X Y) (hk : B ≤ k) (hb : Boxed X k t v) : Boxed Y k t v := h.block hk hb
theorem Since.put {B l : Nat} {X : World} (o : Obj) (h : l < B) : Since B X (X.putObj l o) := by
  refine ⟨?_, fun k hk _ => World.putObj_heap_other (show k ≠ l by omega)⟩
  have := (grownBy_putObj' X l o).size
  exact this

theorem own_more {β : Type} {B C : Nat} {I : β → World → Prop} (h : OwnFrom B I) (hc : B ≤ C) : OwnFrom C I := fun s W W' row hs hg hr =>
  h s W W' row hs hg fun r e => ⟨Nat.le_trans hc (hr r e).1, (hr r e).2⟩
/-- An elder block lies as it lay. -/
theorem own_old {β : Type} {B k : Nat} (o : Obj) (h : k < B) : OwnFrom B (fun (_ : β) W => W.heap[k]? = some o) := fun _ W W' row hs hg hr =>
  (hg.block k (Array.getElem?_eq_some_iff.1 hs).1 (fun e => by have := (hr k e.symm).1; omega)).trans hs
theorem own_grown {β : Type} {B : Nat} {w : World} {x : Option Nat} (h : w.heap.size ≤ B) : OwnFrom B (fun (_ : β) W => w.grownBy W x) := fun _ _ _ _ hs hg hr =>
  ⟨hg.1.trans hs.1, hg.2.trans hs.2, hg.3.trans hs.3, Nat.le_trans hs.4 hg.4, fun k hk hx => (hg.5 k (Nat.lt_of_lt_of_le hk hs.4) (fun e => by have := (hr k e.symm).1; omega)).trans (hs.5 k hk hx)⟩
theorem own_drew {β : Type} {B : Nat} {I : β → World → Prop} (h : OwnFrom B I) {s : β} {W : World} (hs : I s W) : I s W.drew :=
  h s W W.drew none hs ⟨rfl, rfl, rfl, Nat.le_refl _, fun _ _ _ => rfl⟩ (fun _ e => by cases e)
theorem own_put {β : Type} {B : Nat} {I : β → World → Prop} (h : OwnFrom B I) {s : β} {W : World} {l : Nat} {o : Obj} (o' : Obj) (hs : I s W) (hl : B ≤ l) (ho : W.heap[l]? = some o) (hc : o.isCells = false) : I s (W.putObj l o') :=
  h s W _ (some l) hs (grownBy_putObj' W l o') (fun r e => by cases e; exact ⟨hl, o, ho, hc⟩)
theorem own_new {β : Type} {B : Nat} {I : β → World → Prop} (h : OwnFrom B I) {s : β} {W : World} (o : Obj) (hs : I s W) : I s (W.alloc o) :=
  h s W _ none hs (World.grownBy_alloc W o none) (fun _ e => by cases e)

/-- The contract of a function that may range over another one: whatever the caller keeps in mind outlasts new blocks, and turns of such blocks laid since the call began as hold no cells; each round keeps all blocks laid since the call began. -/
def SeqOwn {α : Type} (F : Fence) (n : Nat) (P : Program) (g : Nat) (lb : Array Value) (encs : α → Array Value) (S Sp : List α → Prop) (N : Nat) (w : World) : Prop :=
  ∀ (l : Nat) (J Jx : List α → World → Prop) (W : World), Below w.heap.size w W → OwnFrom W.heap.size J → OwnFrom W.heap.size Jx →
    (∀ pre x V, J pre V → pre.length < N → YieldAt F (n - 1) P l (encs x) V fun e V' =>
      Since W.heap.size V V' ∧ ((e = .returned (.bool true) ∧ J (pre ++ [x]) V') ∨ (e = .returned (.bool false) ∧ Jx (pre ++ [x]) V'))) →
    J [] W →
    CallsIn F n P g (#[.func (.yield l) #[] #[]] ++ lb) W fun e W' => (∃ v, e = .returned v) ∧ ((∃ xs, S xs ∧ J xs W') ∨ (∃ pre, Sp pre ∧ Jx pre W'))

/-- How a round's body may end. -/
def sincePost {α : Type} (B : Nat) (I : List α → World → Prop) (Ix : Code → List α → World → Prop) (xs : List α) (W : World) : Exit → Act → World → Prop
  | .normal, _, V => Since B W V ∧ I xs V
  | .ret, _, V => Since B W V ∧ Ix .ret xs V
  | .exit id, _, V => Since B W V ∧ Ix (.exit id) xs V
  | .goto t, _, V => Since B W V ∧ Ix (.goto t) xs V
  | .panic _, _, _ => False
  | .outgrown, _, _ => False

theorem range_own {F : Fence} {n : Nat} {P : Program} {α : Type} {g : Operand} {ps : Array Tmp} {assign body : Code} {Q : Exit → Act → World → Prop} {a : Act} {w : World}
    (hro : F.round = none) (h1 : 1 ≤ n) {gf : Nat} {lb : Array Value} (hg : a.eval g = .func (.func gf) #[] lb) (hFg : F.fn gf) (eg : ∀ args w, (callFunc gf args).run P w = .ok (.enter gf args) w)
    {encs : α → Array Value} {S Sp : List α → Prop} {N : Nat} {w0 : World} (hseq : SeqOwn F (n - 1) P gf lb encs S Sp N w0) (hb0 : Below w0.heap.size w0 w) (hps : ∀ x, (encs x).size = ps.size)
    (I : List α → World → Prop) (Ix : Code → List α → World → Prop) (hI : OwnFrom w.heap.size I) (hIx : ∀ c, OwnFrom w.heap.size (Ix c)) (h0 : I [] w) (act : α → Act)
    (hassign : ∀ (l : Nat) (x : α) (W : World) (K : Act → World → Prop), K (act x) W →
      assign.wpIn (F.inRound l) (n - 1 - 1) P (Exit.then K (fun _ _ _ => False)) { tmps := (ps.zip (encs x)).foldl (fun t (p, v) => t.setIfInBounds p v) a.tmps, defers := [] } W)
    (hbody : ∀ (l : Nat) (pre : List α) (x : α) (W : World), I pre W → pre.length < N → body.wpIn (F.inRound l) (n - 1 - 1) P (sincePost w.heap.size I Ix (pre ++ [x]) W) (act x) W)
    (hdone : ∀ (D : Nat) (xs : List α) (W : World), w.heap.size ≤ D → S xs → I xs W → W.heap[D]? = some (.deferred (some [])) → Q .normal { a with defers := { target := .collected D, args := #[] } :: a.defers } W)
    (hstop : ∀ (D : Nat) (c : Code) (pre : List α) (W : World), w.heap.size ≤ D → Sp pre → Ix c pre W → W.heap[D]? = some (.deferred (some [])) → c.wpIn F n P Q { a with defers := { target := .collected D, args := #[] } :: a.defers } W) :
    (Code.rangeFunc g ps assign body).wpIn F n P Q a w := by
  refine wpIn_rangeFunc fun fn hfn => ?_
  rw [hro]
  obtain ⟨D, eD⟩ : ∃ D, D = w.heap.size := ⟨_, rfl⟩
  obtain ⟨R, eR⟩ : ∃ R : LoopState → Option Code → Loop, R = fun st pe => { state := st, pending := pe, fn, tmps := a.tmps, params := ps, assign, body, defers := D } := ⟨_, rfl⟩
  obtain ⟨X, eX⟩ : ∃ X, X = (w.alloc (.deferred (some []))).alloc (.loop (R .ready none)) := ⟨_, rfl⟩
  have sX : X.heap.size = D + 2 := by rw [eX, eD, World.size_alloc, World.size_alloc]
  have lX : X.heap[D + 1]? = some (.loop (R .ready none)) := by
    have := World.alloc_heap_new (w.alloc (.deferred (some []))) (.loop (R .ready none))
    rw [World.size_alloc, ← eD, ← eX] at this
    exact this
  have dX : X.heap[D]? = some (.deferred (some [])) := by
    rw [eX, Below.heap_alloc _ _ _ (by rw [World.size_alloc]; omega), eD]
    exact World.alloc_heap_new w _
  have iX : I [] X := by rw [eX]; exact own_new hI _ (own_new hI _ h0)
  have bX : Below w0.heap.size w0 X := by
    rw [eX]
    exact hb0.trans ((((Below.refl _ w).alloc (Nat.le_refl _) _).alloc (by rw [World.size_alloc]; omega) _).mono hb0.size)
  refine ⟨D + 1, [{ target := .collected D, args := #[] }], X, { target := .fn (.func gf) lb, args := #[.func (.yield (D + 1)) #[] #[]] }, X, gf, #[.func (.yield (D + 1)) #[] #[]] ++ lb, X, ?enter, ?res, ?leads, ?inv, fun _ => h1, ?call⟩
  case enter =>
    rw [eX, eR, eD]
    exact run_enterLoop_outer _ _ _ _ _
  case res =>
    simp only [resolve, hg]
    simp [go_sem]
  case leads =>
    intro f' hf'
    simp [Target.leads] at hf'
    subst hf'
    exact hFg
  case inv => simp [invoke, go_sem, eg]
  case call =>
    have oJ : OwnFrom X.heap.size (fun pre W => I pre W ∧ W.heap[D + 1]? = some (.loop (R .ready none)) ∧ W.heap[D]? = some (.deferred (some []))) :=
      OwnFrom.and (own_more hI (by omega)) (OwnFrom.and (own_old _ (by omega)) (own_old _ (by omega)))
    have oK : OwnFrom X.heap.size (fun pre W => ∃ c, Ix c pre W ∧ W.heap[D + 1]? = some (.loop (R .done (some c))) ∧ W.heap[D]? = some (.deferred (some []))) := fun s A B row hs hg' hr => by
      obtain ⟨c, hc⟩ := hs
      exact ⟨c, OwnFrom.and (own_more (hIx c) (by omega)) (OwnFrom.and (own_old _ (by omega)) (own_old _ (by omega))) s A B row hc hg' hr⟩
    refine (hseq (D + 1) _ _ X bX oJ oK ?round ⟨iX, lX, dX⟩).mono ?behind
    case round =>
      rintro pre x W ⟨hi, hl, hd⟩ hlen
      have hlt : D + 1 < W.heap.size := (Array.getElem?_eq_some_iff.1 hl).1
      have hy := run_yield (P := P) (args := encs x) hl (by rw [eR]; exact hps x)
      rw [eR] at hy
      refine ⟨fn, _, assign, body, hy, roundIn_of_wpIn hfn (hassign _ x W _ ⟨_, run_beginRound hl (by rw [eR]), ?_⟩)⟩
      obtain ⟨V, eV⟩ : ∃ V, V = W.putObj (D + 1) (.loop { R .ready none with state := .busy }) := ⟨_, rfl⟩
      have lV : V.heap[D + 1]? = some (.loop { R .ready none with state := .busy }) := by rw [eV]; exact World.putObj_heap_same hlt
      have dV : V.heap[D]? = some (.deferred (some [])) := by rw [eV]; exact (World.putObj_heap_other (by omega)).trans hd
      have sV : Since X.heap.size W V := by rw [eV]; exact Since.put _ (by omega)
      have iV : I pre V := by rw [eV]; exact own_put hI _ hi (by omega) hl rfl
      rw [← eV]
      refine wpIn_mono (hbody _ pre x V iV hlen) ?_
      have tail : ∀ (jump : Option Code) (Z : World), Since w.heap.size V Z → ∃ Y, (Instr.endRound (D + 1) jump).run P Z = .ok (.bool jump.isNone) Y ∧ Since X.heap.size W Y ∧ Y.heap[D + 1]? = some (.loop (R (if jump.isNone then .ready else .done) jump)) ∧ Y.heap[D]? = some (.deferred (some [])) ∧
          (∀ {J : List α → World → Prop} {q : List α}, OwnFrom w.heap.size J → J q Z → J q Y) := fun jump Z hZ => by
        have lZ := hZ.block (by omega) lV
        have dZ := hZ.block (by omega) dV
        have zlt : D + 1 < Z.heap.size := (Array.getElem?_eq_some_iff.1 lZ).1
        have hr := run_endRound (P := P) jump lZ
        rw [eR] at hr
        refine ⟨Z.putObj (D + 1) (.loop (R (if jump.isNone then .ready else .done) jump)), ?_, (sV.trans (hZ.mono (by omega))).trans (Since.put _ (by omega)), World.putObj_heap_same zlt, (World.putObj_heap_other (by omega)).trans dZ, fun hJ hj => own_put hJ _ hj (by omega) lZ rfl⟩
        rw [eR]
        exact hr
      rintro e b Z hp
      cases e with
      | normal =>
        obtain ⟨Y, hr, sY, lY, dY, keep⟩ := tail none Z hp.1
        exact ⟨_, _, hr, sY, .inl ⟨rfl, keep hI hp.2, lY, dY⟩⟩
      | ret =>
        obtain ⟨Y, hr, sY, lY, dY, keep⟩ := tail (some .ret) Z hp.1
        exact ⟨_, _, hr, sY, .inr ⟨rfl, .ret, keep (hIx _) hp.2, lY, dY⟩⟩
      | exit id =>
        obtain ⟨Y, hr, sY, lY, dY, keep⟩ := tail (some (.exit id)) Z hp.1
        exact ⟨_, _, hr, sY, .inr ⟨rfl, .exit id, keep (hIx _) hp.2, lY, dY⟩⟩
      | goto t =>
        obtain ⟨Y, hr, sY, lY, dY, keep⟩ := tail (some (.goto t)) Z hp.1
        exact ⟨_, _, hr, sY, .inr ⟨rfl, .goto t, keep (hIx _) hp.2, lY, dY⟩⟩
      | panic ch => exact hp.elim
      | outgrown => exact hp.elim
    case behind =>
      rintro e W2 ⟨⟨v, rfl⟩, ⟨xs, hS, hi, hl, hd⟩ | ⟨pre, hSp, c, hi, hl, hd⟩⟩
      · have hr := run_endLoop (P := P) hl (by rw [eR]; simp)
        rw [eR] at hr
        exact ⟨none, _, hr, hdone D xs _ (by omega) hS (own_put hI _ hi (by omega) hl rfl) ((World.putObj_heap_other (by omega)).trans hd)⟩
      · have hr := run_endLoop (P := P) hl (by rw [eR]; simp)
        rw [eR] at hr
        exact ⟨some c, _, hr, hstop D c pre _ (by omega) hSp (own_put (hIx c) _ hi (by omega) hl rfl) ((World.putObj_heap_other (by omega)).trans hd)⟩

/-- Where all orders of a region meet. -/
def Meets (b : Act) (v : World) : Exit → Act → World → Prop
  | .normal, a, w => a = b ∧ w = v
  | _, _, _ => False
theorem Meets.imp {Q : Exit → Act → World → Prop} {b : Act} {v : World} (h : Q .normal b v) : ∀ e a w, Meets b v e a w → Q e a w := fun e a w => by
  cases e with
  | normal =>
    rintro ⟨rfl, rfl⟩
    exact h
  | _ => exact fun hm => (hm : False).elim
end Go.Proofs.YtfcmnkhfmofioaaDoor
