/- The chapter's examples, as every statement of the layer asks them first: the call returns true and writes nothing that was there. Conditions: the listed variables hold what the program's text lays. -/
import Derived.Test.YtpoidlmemoocmaaDoorDec
import Derived.Test.YtpoidlmemoocmaaDoorPut
namespace Go.Proofs.YtpoidlmemoocmaaDoor
open Go.RowKit

theorem Bt {w w1 w2 : World} (h : Below w.heap.size w w1) (k : Below w1.heap.size w1 w2) : Below w.heap.size w w2 := h.trans (k.mono h.size)
/-- Bytes, given as numbers, as a string. -/
def strOf (zs : List Int) : ByteArray := ⟨(zs.map fun z => UInt8.ofNat z.toNat).toArray⟩

theorem conv_own {w : World} {base g n cap : Nat} {zs : List Int} (ho : w.ownsRow base 5 1 (.slice (some ⟨g, 0, none⟩) n cap) n (zs.map (Value.int .u8))) (hz : ∀ z ∈ zs, 0 ≤ z ∧ z ≤ 255) :
    (convert 30 9 (.slice (some ⟨g, 0, none⟩) n cap)).run Tryd.prog w = .ok (.string (strOf zs)) w := by
  have hn : zs.length = n := by have := ho.1; simpa using this
  have h := run_convert_bytes_back (P := Tryd.prog) w 30 9 5 ⟨g, 0, none⟩ cap (zs.map fun z => UInt8.ofNat z.toNat) Tryd.underlying30 Tryd.underlying5 Tryd.underlying9 (fun j hj => by
    have hj' : j < zs.length := by simpa using hj
    rw [Lib.add_plain, Nat.zero_add, ho.cellAt j (by omega), List.getElem?_map, List.getElem?_eq_getElem hj']
    have := hz _ (List.getElem_mem hj')
    simp only [List.getElem_map, Option.map_some, UInt8.toNat_ofNat']
    congr 2
    omega)
  rw [List.length_map, hn] at h
  exact h

theorem be_bd (n size : Nat) : ∀ z ∈ be n size, 0 ≤ z ∧ z ≤ 255 := by
  intro z hz
  simp only [be, List.mem_map] at hz
  obtain ⟨i, _, rfl⟩ := hz
  omega

theorem ten : Lib.decDigits 10 = [49, 48] := by rw [Lib.decDigits_two (by decide) (by decide)]; rfl

set_option maxHeartbeats 1000000 in
theorem awake_any (w : World) (hL : Laid w) : Calls Tryd.prog 9 #[] w fun e w' => e = .returned (.bool true) ∧ Below w.heap.size w w' := by
  have v1 : decV [48, 48, 55] = 7 := by decide
  have b1 : decB [48, 48, 55] = true := by decide
  have b2 : decB [49, 56, 52, 52, 54, 55, 52, 52, 48, 55, 51, 55, 48, 57, 53, 53, 49, 54, 49, 54] = false := by decide
  have b3 : decB [] = false := by decide
  have s1 : (strOf (be 258 2)).toList = [1, 2] := by rw [ByteArray.toList_eq]; decide
  have s2 := ten
  have hB : Below w.heap.size w w := Below.refl _ _
  go_enter Tryd.func9, Tryd.ntmps9
  go_wp2_with (first
    | (go_at_call 10; refine (decimal_any _ (by decide) _ (by assumption)).mono ?_; rintro e w' ⟨rfl, hb⟩; have hL' := Laid.on (by assumption) hb; have hB' := Bt (by assumption) hb)
    | (go_at_call 19; refine (put16_any 258 (by decide) _).mono ?_; rintro e w' ⟨rfl, ho, hb⟩; have hL' := Laid.on (by assumption) hb; have hB' := Bt (by assumption) hb; have hcv := conv_own ho (be_bd 258 2))
    | (go_at_call 14; refine (show_nat 10 (by decide) _ (by assumption)).mono ?_; rintro e w' ⟨rfl, hb⟩; have hB' := Bt (by assumption) hb))
  go_ret
  exact ⟨rfl, by assumption⟩
end Go.Proofs.YtpoidlmemoocmaaDoor
