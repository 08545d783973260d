/- The rows of package slru, in memory: a node is put last, and taken out. Conditions: none. -/
import Derived.Test.YtedfhikmlicbgaaSlruN
import Derived.Test.YtedfhikmlicbgaaMapSteps
import Derived.Deep.CutBlock
import Derived.Deep.CutRange
import Derived.Deep.QuietTactic
import Derived.BigQuiet
namespace Go.Proofs.Ytedfhikmlicbgaa
open Go.RowKit Go.Maps

/-- The nodes at these blocks. -/
def nodesP (I : List Nat) (nd : Nat → Array Value) : Part := ⟨fun k => k ∈ I, fun w => ∀ k ∈ I, w.heap[k]? = some (.cells (nd k) 56), fun _ _ h hs k hk => (hs k hk).trans (h k hk)⟩
theorem LawF.setNode {F : Nat → Prop} {w0 w : World} {I : List Nat} {nd : Nat → Array Value} {R : Part} (H : LawF F w0 w ((nodesP I nd).and R)) (k i : Nat) (hk : k ∈ I) (y : Value) : LawF F w0 (w.setCell ⟨k, i, none⟩ y) ((nodesP I (updN nd k i y)).and R) := by
  refine H.turn (A' := nodesP I (updN nd k i y)) (fun j hj => ?_) (fun j hj => ?_) ?_ fun j hj => .inl hj
  · by_cases e : j = k
    · subst e
      rw [updN_same]
      exact heap_setCell_same w j i _ _ y (H.q.1 j hj)
    · rw [updN_other e, heap_setCell_other _ _ _ _ e]
      exact H.q.1 j hj
  · rw [World.size_setCell]
    exact (H.lt j (.inl hj)).1
  · exact ⟨rfl, rfl, rfl, by rw [World.size_setCell]; exact Nat.le_refl _, fun j _ hn => heap_setCell_other _ _ _ _ fun e => hn (by rw [e]; exact hk)⟩
theorem box_cell {w : World} {k i : Nat} {cs : Array Value} {t : TypeId} {v : Value} (h : w.heap[k]? = some (.cells cs t)) (hi : cs[i]? = some v) : w.cell? ⟨k, i, none⟩ = some v := by
  simp [World.cell?, h, hi]
abbrev RowAt (F : Nat → Prop) (w0 w : World) (b : Nat) (hc : Array Value) (I : List Nat) (nd : Nat → Array Value) (R : Part) : Prop := LawF F w0 w ((boxP b (.cells hc 52)).and ((nodesP I nd).and R))
section
variable {F : Nat → Prop} {w0 w : World} {b : Nat} {hc : Array Value} {I : List Nat} {nd : Nat → Array Value} {R : Part}
theorem RowAt.head (H : RowAt F w0 w b hc I nd R) {i : Nat} {v : Value} (hi : hc[i]? = some v) : w.cell? ⟨b, i, none⟩ = some v := box_cell H.q.1 hi
theorem RowAt.headF (H : RowAt F w0 w b hc I nd R) (i : Nat) : w.frozen? ⟨b, i, none⟩ = false := frozen_of_row w b i _ _ H.q.1
theorem RowAt.node (H : RowAt F w0 w b hc I nd R) {k i : Nat} {v : Value} (hk : k ∈ I) (hi : (nd k)[i]? = some v) : w.cell? ⟨k, i, none⟩ = some v := box_cell (H.q.2.1.1 k hk) hi
theorem RowAt.nodeF (H : RowAt F w0 w b hc I nd R) {k : Nat} (hk : k ∈ I) (i : Nat) : w.frozen? ⟨k, i, none⟩ = false := frozen_of_row w k i _ _ (H.q.2.1.1 k hk)
theorem RowAt.setH (H : RowAt F w0 w b hc I nd R) (i : Nat) (y : Value) : RowAt F w0 (w.setCell ⟨b, i, none⟩ y) b (hc.setIfInBounds i y) I nd R := H.setAt i y
theorem RowAt.setN (H : RowAt F w0 w b hc I nd R) {k : Nat} (hk : k ∈ I) (i : Nat) (y : Value) : RowAt F w0 (w.setCell ⟨k, i, none⟩ y) b hc I (updN nd k i y) R := (H.rot.setNode k i hk y).rot
end
/-- What a row's three cells are. -/
structure RowC (hc : Array Value) (off : Nat) (l : List Nk) : Prop where
  first : hc[off]? = some (firstP l)
  last : hc[off + 1]? = some (lastP l)
  many : hc[off + 2]? = some (.int .i64 (l.length : Nat))
def putH (hc : Array Value) (off x : Nat) (l : List Nk) : Array Value :=
  ((if l = [] then hc.setIfInBounds off (.pointer (some ⟨x, 0, none⟩)) else hc).setIfInBounds (off + 1) (.pointer (some ⟨x, 0, none⟩))).setIfInBounds (off + 2) (.int .i64 (l.length + 1 : Nat))
theorem many_up {n : Nat} (h : n < 9223372036854775807) : IntKind.i64.wrap ((n : Int) + 1) = ((n + 1 : Nat) : Int) := by
  rw [IntKind.wrap_i64]
  omega
theorem wrap_id {a : Int} (h : -9223372036854775808 ≤ a ∧ a < 9223372036854775808) : wrap64 a = a := by unfold wrap64; omega
theorem set_get {hc : Array Value} {i j : Nat} {v y : Value} (h : hc[j]? = some v) (hne : i ≠ j) : (hc.setIfInBounds i y)[j]? = some v := by
  rw [Array.getElem?_setIfInBounds, if_neg hne, h]
theorem last_nil : lastP [] = .pointer none := rfl
theorem last_snoc (l : List Nk) (a : Nk) : lastP (l ++ [a]) = .pointer (some ⟨a.1, 0, none⟩) := by simp [lastP, ptN]
theorem getLast_snoc (l : List Nk) (a : Nk) : (l ++ [a]).getLast? = some a := by simp
set_option maxRecDepth 100000 in
set_option maxHeartbeats 4000000 in
theorem putLast_any {F : Nat → Prop} {w0 w : World} {b off x : Nat} {hc : Array Value} {I : List Nat} {nd : Nat → Array Value} {R : Part} {l : List Nk} {s : ByteArray} {i p q : Value} (H : RowAt F w0 w b hc I nd R) (hr : RowC hc off l) (hl : l.length < maxLen) (hx : x ∈ I) (hi : ∀ y ∈ l, y.1 ∈ I) (hne : ∀ y ∈ l, y.1 ≠ x) (hv : nd x = #[.string s, i, p, q]) (h4 : ∀ y ∈ l, (nd y.1).size = 4) :
    Calls Try.prog 26 #[.pointer (some ⟨b, off, none⟩), .pointer (some ⟨x, 0, none⟩)] w fun e w' => e = .returned (.tuple #[]) ∧ RowAt F w0 w' b (putH hc off x l) I (putN nd b off x l) R := by
  obtain ⟨hr0, hr1, hr2⟩ := hr
  obtain ⟨m, hm⟩ : ∃ m, l.length = m := ⟨_, rfl⟩
  rw [hm] at hr2 hl
  have e1 : wrap64 ((m : Int) + 1) = ((m + 1 : Nat) : Int) := (wrap_id (by unfold maxLen at hl; omega)).trans (by omega)
  rcases List.eq_nil_or_concat l with rfl | ⟨l0, a, rfl⟩
  · rw [last_nil] at hr1
    have c1 := H.head hr1
    have g1 := H.nodeF hx 1
    have n1 := H.node hx (i := 1) (v := i) (by rw [hv]; rfl)
    have H1 := H.setN hx 1 (.pointer (some ⟨b, off, none⟩))
    have x1 : updN nd x 1 (.pointer (some ⟨b, off, none⟩)) x = #[.string s, .pointer (some ⟨b, off, none⟩), p, q] := by rw [updN_same, hv]; simp
    have g2 := H1.nodeF hx 2
    have n2 := H1.node hx (i := 2) (v := p) (by rw [x1]; rfl)
    have H2 := H1.setN hx 2 (.pointer none)
    have x2 : updN (updN nd x 1 (.pointer (some ⟨b, off, none⟩))) x 2 (.pointer none) x = #[.string s, .pointer (some ⟨b, off, none⟩), .pointer none, q] := by rw [updN_same, x1]; simp
    have g3 := H2.nodeF hx 3
    have n3 := H2.node hx (i := 3) (v := q) (by rw [x2]; rfl)
    have H3 := H2.setN hx 3 (.pointer none)
    have c3 := H3.head hr1
    have f0 := H3.headF off
    have k0 := H3.head hr0
    have H4 := H3.setH off (.pointer (some ⟨x, 0, none⟩))
    have f1 := H4.headF (off + 1)
    have k1 := H4.head (set_get hr1 (by omega))
    have H5 := H4.setH (off + 1) (.pointer (some ⟨x, 0, none⟩))
    have f2 := H5.headF (off + 2)
    have k2 := H5.head (set_get (set_get hr2 (by omega)) (by omega))
    have H6 := hide (H5.setH (off + 2) (.int .i64 (m + 1 : Nat)))
    clear H H1 H2 H3 H4 H5 x1 x2
    go_enter Try.func26, Try.ntmps26
    go_wp2
    go_end0
    refine ⟨rfl, ?_⟩
    unfold putH putN
    rw [if_pos rfl, hm]
    exact H6.out
  · rw [List.concat_eq_append] at *
    rw [last_snoc] at hr1
    have ha : a.1 ∈ I := hi a (by simp)
    have hax : a.1 ≠ x := hne a (by simp)
    obtain ⟨a1, ea⟩ : ∃ a1, a.1 = a1 := ⟨_, rfl⟩
    have hs4 : (nd a1).size = 4 := by rw [← ea]; exact h4 a (by simp)
    rw [ea] at ha hax hr1
    obtain ⟨va, hva⟩ : ∃ v, (nd a1)[3]? = some v := ⟨_, Array.getElem?_eq_getElem (by omega)⟩
    have c1 := H.head hr1
    have g1 := H.nodeF hx 1
    have n1 := H.node hx (i := 1) (v := i) (by rw [hv]; rfl)
    have H1 := H.setN hx 1 (.pointer (some ⟨b, off, none⟩))
    have x1 : updN nd x 1 (.pointer (some ⟨b, off, none⟩)) x = #[.string s, .pointer (some ⟨b, off, none⟩), p, q] := by rw [updN_same, hv]; simp
    have g2 := H1.nodeF hx 2
    have n2 := H1.node hx (i := 2) (v := p) (by rw [x1]; rfl)
    have H2 := H1.setN hx 2 (.pointer (some ⟨a1, 0, none⟩))
    have x2 : updN (updN nd x 1 (.pointer (some ⟨b, off, none⟩))) x 2 (.pointer (some ⟨a1, 0, none⟩)) x = #[.string s, .pointer (some ⟨b, off, none⟩), .pointer (some ⟨a1, 0, none⟩), q] := by rw [updN_same, x1]; simp
    have g3 := H2.nodeF hx 3
    have n3 := H2.node hx (i := 3) (v := q) (by rw [x2]; rfl)
    have H3 := H2.setN hx 3 (.pointer none)
    have c3 := H3.head hr1
    have f0 := H3.nodeF ha 3
    have k0 := H3.node ha (i := 3) (v := va) (by rw [updN_other hax, updN_other hax, updN_other hax]; exact hva)
    have H4 := H3.setN ha 3 (.pointer (some ⟨x, 0, none⟩))
    have f1 := H4.headF (off + 1)
    have k1 := H4.head hr1
    have H5 := H4.setH (off + 1) (.pointer (some ⟨x, 0, none⟩))
    have f2 := H5.headF (off + 2)
    have k2 := H5.head (set_get hr2 (by omega))
    have H6 := hide (H5.setH (off + 2) (.int .i64 (m + 1 : Nat)))
    clear H H1 H2 H3 H4 H5 x1 x2
    go_enter Try.func26, Try.ntmps26
    go_wp2
    go_end0
    refine ⟨rfl, ?_⟩
    unfold putH putN
    rw [if_neg (by simp), hm, getLast_snoc, last_snoc]
    simp only [ea]
    exact H6.out
end Go.Proofs.Ytedfhikmlicbgaa
