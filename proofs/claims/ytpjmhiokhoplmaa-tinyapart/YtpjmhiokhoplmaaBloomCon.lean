/- The contracts of package bloom, over a word 'Fil' that says which places a filter in memory has set. Nothing of the program is walked here. Conditions: none. -/
import Derived.Test.YtpjmhiokhoplmaaGrow
import Derived.Test.YtpjmhiokhoplmaaBloomM
namespace Go.Proofs.Ytpjmhiokhoplmaa
open Go.RowKit

/-- The contracts of package bloom. -/
structure BloomLib (Fil : World → Nat → Nat → List Nat → Prop) : Prop where
  lt : ∀ {w b sd S}, Fil w b sd S → b < w.heap.size
  good : ∀ {w b sd S}, Fil w b sd S → Good S ∧ sd < 18446744073709551616
  keep : ∀ {w w' b sd S}, Fil w b sd S → w'.heap[b]? = w.heap[b]? → Fil w' b sd S
  new : ∀ (sd : Nat), sd < 18446744073709551616 → ∀ w : World, Calls Try.prog 19 #[.int .u64 sd] w fun e w' => ∃ b, e = .returned (.pointer (some ⟨b, 0, none⟩)) ∧ w.heap.size ≤ b ∧ Fil w' b sd [] ∧ w.grownBy w' none
  add : ∀ {w b sd S}, Fil w b sd S → ∀ s : ByteArray, s.size ≤ 300 → Calls Try.prog 24 #[.pointer (some ⟨b, 0, none⟩), .string s] w fun e w' => e = .returned (.bool (hasS S (pls sd s.data.toList))) ∧ Fil w' b sd (addS S (pls sd s.data.toList)) ∧ w.grownBy w' (some b)
  has : ∀ {w b sd S}, Fil w b sd S → ∀ s : ByteArray, s.size ≤ 300 → Calls Try.prog 30 #[.pointer (some ⟨b, 0, none⟩), .string s] w fun e w' => e = .returned (.bool (hasS S (pls sd s.data.toList))) ∧ Fil w' b sd S ∧ w.grownBy w' none
  clear : ∀ {w b sd S}, Fil w b sd S → Calls Try.prog 26 #[.pointer (some ⟨b, 0, none⟩)] w fun e w' => (∃ v, e = .returned v) ∧ Fil w' b sd [] ∧ w.grownBy w' (some b)
  copy : ∀ {w b sd S}, Fil w b sd S → Calls Try.prog 22 #[.pointer (some ⟨b, 0, none⟩)] w fun e w' => ∃ b', e = .returned (.pointer (some ⟨b', 0, none⟩)) ∧ w.heap.size ≤ b' ∧ Fil w' b' sd S ∧ w.grownBy w' none
variable {Fil : World → Nat → Nat → List Nat → Prop}
theorem BloomLib.kept (L : BloomLib Fil) {w w' : World} {b sd : Nat} {S : List Nat} {row : Option Nat} (h : Fil w b sd S) (hg : w.grownBy w' row) (hr : row ≠ some b) : Fil w' b sd S := L.keep h (hg.block b (L.lt h) (fun e => hr e.symm))
end Go.Proofs.Ytpjmhiokhoplmaa
