/- Bytes that came in, as a list. Conditions: none. -/
import Derived.Test.YthfkcbnabnmnjaaGreatDoorG02Joined
import Derived.Test.YthfkcbnabnmnjaaGreatDoorG32Joined
namespace Go.Proofs.YthfkcbnabnmnjaaGreatDoor
open Go.RowKit

/-- Bytes that came in. -/
theorem isRow_bs {w : World} {a : Option Addr} {len cap : Nat} {zs : List Int} (h : IsRow .u8 w a len cap zs) : ∃ u : List UInt8, u.length = len ∧ Bs w a len cap (ints u) ∧ len ≤ maxLen ∧ cap ≤ maxLen ∧ len ≤ cap := by
  rcases h with ⟨rfl, rfl, rfl, rfl⟩ | ⟨x, rfl, h2, h3, h4, h5, h6⟩
  · exact ⟨[], rfl, .inl ⟨rfl, rfl, fun _ => rfl⟩, Nat.zero_le _, Nat.zero_le _, Nat.le_refl _⟩
  · obtain ⟨u, hu⟩ := ints_of (l := zs.take len) fun z hz => h6 z (List.mem_of_mem_take hz)
    have hul : u.length = len := by rw [← ints_len, ← hu, List.length_take]; omega
    refine ⟨u, hul, ?_, by omega, h3, h2⟩
    rw [← hu]
    by_cases h0 : len = 0
    · exact .inl ⟨h0, by rw [h0]; rfl, fun e => by cases e⟩
    · have c0 := h5 0 (by omega)
      have hspot : x.spot = none := by simpa [Addr.add] using World.cell?_spot c0
      obtain ⟨b, off, spot⟩ := x
      simp only at hspot
      subst hspot
      refine .inr ⟨b, off, rfl, by omega, h2, by rw [List.length_take]; omega, fun z hz' => u8_wf (h6 z (List.mem_of_mem_take hz')), fun i hi => ?_, ?_⟩
      · have h1 := h5 i (by omega)
        rw [add_at] at h1
        rw [h1]
        congr 2
        simp [List.getD, hi]
      · rw [add_at] at c0
        exact block_lt_of_cell c0
theorem cat3 (a b c : List UInt8) : strOf (ints (c ++ (a ++ b))) = strOf (ints c) ++ strOf (ints a) ++ strOf (ints b) := by
  rw [strOf_ints, strOf_ints, strOf_ints, strOf_ints, ByteArray.mk_append_mk, ByteArray.mk_append_mk, List.append_assoc]
theorem strOf_size (l : List UInt8) : (strOf (ints l)).size = l.length := by
  rw [strOf_ints]
  show l.toArray.size = _
  simp
end Go.Proofs.YthfkcbnabnmnjaaGreatDoor
