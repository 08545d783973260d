/- The contracts of package sketch, over a word 'Sk' that says what a sketch in memory has counted. Nothing of the program is walked here. Conditions: none. -/
import Derived.Test.YtpjmhiokhoplmaaGrow
import Derived.Test.YtpjmhiokhoplmaaSketchM
namespace Go.Proofs.Ytpjmhiokhoplmaa
open Go.RowKit

/-- The contracts of package sketch. -/
structure SketchLib (Sk : World → Nat → Nat → St → Prop) : Prop where
  lt : ∀ {w b sd st}, Sk w b sd st → b < w.heap.size
  good : ∀ {w b sd st}, Sk w b sd st → GoodK st ∧ sd < 18446744073709551616
  keep : ∀ {w w' b sd st}, Sk w b sd st → w'.heap[b]? = w.heap[b]? → Sk w' b sd st
  new : ∀ (sd : Nat), sd < 18446744073709551616 → ∀ w : World, Calls Try.prog 20 #[.int .u64 sd] w fun e w' => ∃ b, e = .returned (.pointer (some ⟨b, 0, none⟩)) ∧ w.heap.size ≤ b ∧ Sk w' b sd fresh ∧ w.grownBy w' none
  add : ∀ {w b sd st}, Sk w b sd st → ∀ s : ByteArray, s.size ≤ 300 → Calls Try.prog 25 #[.pointer (some ⟨b, 0, none⟩), .string s] w fun e w' => e = .returned (.bool (halved st)) ∧ Sk w' b sd (addK sd st s.data.toList) ∧ w.grownBy w' (some b)
  count : ∀ {w b sd st}, Sk w b sd st → ∀ s : ByteArray, s.size ≤ 300 → Calls Try.prog 29 #[.pointer (some ⟨b, 0, none⟩), .string s] w fun e w' => e = .returned (.int .i64 (cnt st.1 (plcs sd s.data.toList))) ∧ Sk w' b sd st ∧ w.grownBy w' none
  copy : ∀ {w b sd st}, Sk w b sd st → Calls Try.prog 23 #[.pointer (some ⟨b, 0, none⟩)] w fun e w' => ∃ b', e = .returned (.pointer (some ⟨b', 0, none⟩)) ∧ w.heap.size ≤ b' ∧ Sk w' b' sd st ∧ w.grownBy w' none

variable {Sk : World → Nat → Nat → St → Prop}
theorem SketchLib.kept (L : SketchLib Sk) {w w' : World} {b sd : Nat} {st : St} {row : Option Nat} (h : Sk w b sd st) (hg : w.grownBy w' row) (hr : row ≠ some b) : Sk w' b sd st := L.keep h (hg.block b (L.lt h) (fun e => hr e.symm))
end Go.Proofs.Ytpjmhiokhoplmaa
