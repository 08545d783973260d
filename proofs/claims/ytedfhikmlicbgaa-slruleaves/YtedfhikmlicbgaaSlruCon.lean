/- The contracts of package slru, over a word 'Ls' that says what a list in memory has. Nothing of the program is walked here. Conditions: none. -/
import Derived.Test.YtedfhikmlicbgaaGrow
import Derived.Test.YtedfhikmlicbgaaSlruM
import Derived.Test.YtedfhikmlicbgaaRowsOpen
import Derived.Test.YtedfhikmlicbgaaRangeSep
namespace Go.Proofs.Ytedfhikmlicbgaa
open Go.RowKit Go.Shelf

def keyEnc (s : ByteArray) : Array Value := #[.string s]
/-- The contracts of package slru: a list at block b owns some blocks. -/
structure SlruLib (Ls : World → Nat → (Nat → Prop) → Sr → Prop) : Prop where
  lt : ∀ {w b own st}, Ls w b own st → ∀ k, own k → k < w.heap.size
  good : ∀ {w b own st}, Ls w b own st → GoodR st
  keep : ∀ {w w' b own st}, Ls w b own st → SameOn own w w' → Ls w' b own st
  new : ∀ (most : Int), I64 most → ∀ w : World, Calls Try.prog 11 #[.int .i64 most] w fun e w' => ∃ b own, e = .returned (.pointer (some ⟨b, 0, none⟩)) ∧ (∀ k, own k → w.heap.size ≤ k) ∧ Ls w' b own (freshR most) ∧ w.grownBy w' none
  add : ∀ {w b own st}, Ls w b own st → (allR st).length < maxLen → ∀ s : ByteArray, s.size ≤ maxLen → Calls Try.prog 12 #[.pointer (some ⟨b, 0, none⟩), .string s] w fun e w' => e = .returned (.int .i64 (addErr st s)) ∧ ∃ own', Ls w' b own' (addR st s) ∧ Gr own w w' ∧ Grew w own own'
  hit : ∀ {w b own st}, Ls w b own st → (allR st).length ≤ maxLen → ∀ s : ByteArray, s.size ≤ maxLen → Calls Try.prog 14 #[.pointer (some ⟨b, 0, none⟩), .string s] w fun e w' => e = .returned (.int .i64 (remErr st s)) ∧ ∃ own', Ls w' b own' (hitR st s) ∧ Gr own w w' ∧ Grew w own own'
  remove : ∀ {w b own st}, Ls w b own st → (allR st).length ≤ maxLen → ∀ s : ByteArray, s.size ≤ maxLen → Calls Try.prog 16 #[.pointer (some ⟨b, 0, none⟩), .string s] w fun e w' => e = .returned (.int .i64 (remErr st s)) ∧ ∃ own', Ls w' b own' (remR st s) ∧ Gr own w w' ∧ Grew w own own'
  victim : ∀ {w b own st}, Ls w b own st → (allR st).length ≤ maxLen → ∀ s : ByteArray, s.size ≤ maxLen → Calls Try.prog 18 #[.pointer (some ⟨b, 0, none⟩), .string s] w fun e w' => e = .returned (.tuple #[.string ((vicR st s).getD ⟨#[]⟩), .bool (vicR st s).isSome]) ∧ Ls w' b own st ∧ w.grownBy w' none
  len : ∀ {w b own st}, Ls w b own st → (allR st).length ≤ maxLen → Calls Try.prog 23 #[.pointer (some ⟨b, 0, none⟩)] w fun e w' => e = .returned (.int .i64 (allR st).length) ∧ Ls w' b own st ∧ w.grownBy w' none
  prot : ∀ {w b own st}, Ls w b own st → (allR st).length ≤ maxLen → Calls Try.prog 24 #[.pointer (some ⟨b, 0, none⟩)] w fun e w' => e = .returned (.int .i64 st.safe.length) ∧ Ls w' b own st ∧ w.grownBy w' none
  all : ∀ {w b own st}, Ls w b own st → (allR st).length ≤ 1000 → Calls Try.prog 32 #[.pointer (some ⟨b, 0, none⟩)] w fun e w' => ∃ g lb own2, e = .returned (.func (.func g) #[] lb) ∧ Ls w' b own st ∧ w.grownBy w' none ∧ (∀ k, own k → own2 k) ∧ (∀ k, own2 k → own k ∨ (w.heap.size ≤ k ∧ k < w'.heap.size)) ∧
    (∀ args v, (callFunc g args).run Try.prog v = .ok (.enter g args) v) ∧ ∀ n, 5 ≤ n → SeqSep Fence.wide n Try.prog g lb keyEnc own2 (fun xs => xs = allR st) (fun pre => pre <+: allR st) (allR st).length w'
end Go.Proofs.Ytedfhikmlicbgaa
