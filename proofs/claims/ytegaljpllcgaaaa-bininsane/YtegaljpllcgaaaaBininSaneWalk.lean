/- BininSane returns true for every row of bytes, and writes nothing that was there. Conditions: none. -/
import Derived.Test.YtegaljpllcgaaaaG32Joined
namespace Go.Proofs.Ytegaljpllcgaaaa
set_option linter.unusedVariables false
open Go.RowKit

theorem fault_b0 (c s o : Int) (h : 0 < (strOf (faultZ c s o)).size) : (((strOf (faultZ c s o))[0]'h).toNat : Int) = 129 := rfl
theorem fault_b1 {c : Int} (s o : Int) (c0 : 0 ≤ c) (c1 : c ≤ 255) (h : 1 < (strOf (faultZ c s o)).size) : (((strOf (faultZ c s o))[1]'h).toNat : Int) = c := by
  show ((UInt8.ofNat (c % 256).toNat).toNat : Int) = c
  rw [UInt8.toNat_ofNat']
  omega
/-- What a head's first bytes are in memory. -/
theorem head_at {W : World} {g off len cap : Nat} {u : List UInt8} (hu : Bu W (some ⟨g, off, none⟩) len cap u) (h : 24 ≤ len) (h128 : ((u.getD 0 0).toNat : Int) = 128) (w : World) (hb : Below W.heap.size W w) : w.cell? ⟨g, off, none⟩ = some (.int .u8 128) ∧ w.cell? ⟨g, off + 1, none⟩ = some (.int .u8 (by1 u)) := by
  have hn := hu.n
  have g1 : ∀ i (hi : i < u.length), u.getD i 0 = u[i] := fun i hi => by rw [List.getD_eq_getElem?_getD, List.getElem?_eq_getElem hi]; rfl
  have a0 := first_byte (hu.on hb) 0 (by omega)
  have a1 := first_byte (hu.on hb) 1 (by omega)
  rw [← g1 0 (by omega), h128, Nat.add_zero] at a0
  rw [← g1 1 (by omega)] at a1
  exact ⟨a0, a1⟩
theorem bininSane_walk (W : World) (a0 : Option Addr) (len0 cap0 : Nat) (z0 : List Int) (w0 : IsRow .u8 W a0 len0 cap0 z0) :
    Calls Try.prog 4 #[.slice a0 len0 cap0] W fun e W' => e = .returned (.bool true) ∧ Below W.heap.size W W' := by
  obtain ⟨u, hu⟩ := Bu.of w0
  have hn := hu.n
  have hc := hu.c
  by_cases h : 5000 < len0
  · exact sane_far h
  · rcases ways16 u with hm | ⟨hm, h0⟩ | ⟨l, hw, hh⟩
    · exact sane_more hu (by omega) hm
    · exact sane_quit hu (by omega) hm (by omega)
    · have hf := hw.fit
      have hl := hw.few
      obtain ⟨g, off, rfl⟩ : ∃ g off, a0 = some ⟨g, off, none⟩ := by
        rcases hu.b with ⟨h1, _, _⟩ | ⟨g, off, r⟩
        · omega
        · exact ⟨g, off, r.at_⟩
      have hd := head_at hu (by omega) hw.first
      have hc1 := by1_bd u
      rcases hh with ⟨hst, hm⟩ | ⟨x, k, v, ha⟩
      · refine sane_error (c := by1 u) (st := stB u) (o := getB u 12 4) (used := 24 + (l : Int)) (R := strOf (faultZ (by1 u) (stB u) (getB u 12 4))) (V := ⟨((u.drop 12).take 4).toArray⟩) rfl (fault_size _ _ _) (by omega) (by omega) (by omega) (fault_b0 _ _ _ _) (fault_b1 _ _ hc1.1 hc1.2 _) (fault_opq _ _ (by omega)) hu (by omega) hm (fun w hb => ?_)
        exact ⟨(hd w hb).1, (hd w hb).2, convU ((hu.on hb).part 12 4 (by omega))⟩
      · have hs := ha.sum
        have hmay := ask_may hw ha
        refine sane_ok (x := cmdQ (ofN (by1 u)) u x k v) (f := formQ (by1 u) (getB u 12 4) (ofN (by1 u)).quiet ⟨((u.drop (24 + x)).take k).toArray⟩ k) (used := 24 + ((x + k + v : Nat) : Int)) hmay hc1.1 hc1.2 (by omega) (by omega) (by omega) hu (by omega) ha.par (fun w hb => hd w hb)
end Go.Proofs.Ytegaljpllcgaaaa
