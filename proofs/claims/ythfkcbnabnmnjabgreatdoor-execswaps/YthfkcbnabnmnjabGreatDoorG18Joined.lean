/- Keys in linked nodes, over lists alone: what the nodes' cells are, and what they are behind a node's coming and going. Nothing of the program is run here. Conditions: none. The rows of package slru, in memory: a node is put last, and taken out. Conditions: none. -/
import Derived.Test.YthfkcbnabnmnjabGreatDoorG04Joined
import Derived.Test.YthfkcbnabnmnjabGreatDoorG13Joined
import Derived.Deep.CutBlock
import Derived.Deep.CutRange
import Derived.Deep.QuietTactic
import Derived.BigQuiet
namespace Go.Proofs.YthfkcbnabnmnjabGreatDoor
open Go.RowKit

/-- A node's block, and its key. -/
abbrev Nk := Nat × ByteArray
def ptN : Option Nat → Value
  | none => .pointer none
  | some k => .pointer (some ⟨k, 0, none⟩)
def firstP (l : List Nk) : Value := ptN (l.head?.map (·.1))
def lastP (l : List Nk) : Value := ptN (l.getLast?.map (·.1))
abbrev ids (l : List Nk) : List Nat := l.map (·.1)
abbrev keysN (l : List Nk) : List ByteArray := l.map (·.2)
def nodeV (b off : Nat) (s : ByteArray) (pv nx : Value) : Array Value := #[.string s, .pointer (some ⟨b, off, none⟩), pv, nx]
/-- The nodes of a row know their row and their neighbours. -/
def Chain (b off : Nat) (nd : Nat → Array Value) (l : List Nk) : Prop := ∀ pre x post, l = pre ++ x :: post → nd x.1 = nodeV b off x.2 (lastP pre) (firstP post)
def updN (nd : Nat → Array Value) (k i : Nat) (y : Value) : Nat → Array Value := fun j => if j = k then (nd k).setIfInBounds i y else nd j
theorem updN_same (nd : Nat → Array Value) (k i : Nat) (y : Value) : updN nd k i y k = (nd k).setIfInBounds i y := if_pos rfl
theorem updN_other {nd : Nat → Array Value} {k j i : Nat} {y : Value} (h : j ≠ k) : updN nd k i y j = nd j := if_neg h
theorem first_app {A B : List Nk} {x : Nk} : firstP ((x :: A) ++ B) = firstP (x :: A) := rfl
theorem last_app {A B : List Nk} {x : Nk} : lastP (A ++ x :: B) = lastP (x :: B) := by
  unfold lastP
  rw [List.getLast?_append]
  cases h : (x :: B).getLast? with
  | none => simp at h
  | some y => rfl
theorem last_cons {B : List Nk} {x y : Nk} : lastP (x :: y :: B) = lastP (y :: B) := by
  unfold lastP
  rw [List.getLast?_cons_cons]
theorem ids_ne {P Q : List Nk} {u v : Nk} (h : (ids (P ++ u :: Q)).Nodup) (hv : v ∈ P ∨ v ∈ Q) : v.1 ≠ u.1 := by
  unfold ids at h
  rw [List.map_append, List.map_cons, List.nodup_append] at h
  obtain ⟨_, h2, h3⟩ := h
  rw [List.nodup_cons] at h2
  intro e
  rcases hv with hv | hv
  · exact h3 v.1 (List.mem_map_of_mem hv) u.1 List.mem_cons_self e
  · exact h2.1 (e ▸ List.mem_map_of_mem hv)
theorem chain_same {b off : Nat} {nd nd' : Nat → Array Value} {l : List Nk} (h : Chain b off nd l) (hs : ∀ y ∈ l, nd' y.1 = nd y.1) : Chain b off nd' l := fun pre x post e => (hs x (by rw [e]; simp)).trans (h pre x post e)

/-- A node goes: its neighbours know each other. -/
def takeN (nd : Nat → Array Value) (A B : List Nk) : Nat → Array Value :=
  let n1 := match A.getLast? with
    | none => nd
    | some a => updN nd a.1 3 (firstP B)
  match B.head? with
  | none => n1
  | some c => updN n1 c.1 2 (lastP A)
theorem takeN_other {nd : Nat → Array Value} {A B : List Nk} {k : Nat} (ha : ∀ a, A.getLast? = some a → k ≠ a.1) (hb : ∀ c, B.head? = some c → k ≠ c.1) : takeN nd A B k = nd k := by
  unfold takeN
  cases h1 : A.getLast? with
  | none =>
    cases h2 : B.head? with
    | none => rfl
    | some c => exact updN_other (hb c h2)
  | some a =>
    cases h2 : B.head? with
    | none => exact updN_other (ha a h1)
    | some c => exact (updN_other (hb c h2)).trans (updN_other (ha a h1))
theorem takeN_last {nd : Nat → Array Value} {A B : List Nk} {a : Nk} (h1 : A.getLast? = some a) (hb : ∀ c, B.head? = some c → a.1 ≠ c.1) : takeN nd A B a.1 = (nd a.1).setIfInBounds 3 (firstP B) := by
  unfold takeN
  rw [h1]
  cases h2 : B.head? with
  | none => exact updN_same _ _ _ _
  | some c => exact (updN_other (hb c h2)).trans (updN_same _ _ _ _)
theorem takeN_first {nd : Nat → Array Value} {A B : List Nk} {c : Nk} (h2 : B.head? = some c) (ha : ∀ a, A.getLast? = some a → c.1 ≠ a.1) : takeN nd A B c.1 = (nd c.1).setIfInBounds 2 (lastP A) := by
  unfold takeN
  rw [h2]
  cases h1 : A.getLast? with
  | none => exact updN_same _ _ _ _
  | some a =>
    show updN (updN nd a.1 3 (firstP B)) c.1 2 (lastP A) c.1 = _
    rw [updN_same, updN_other (ha a h1)]
theorem mem_last {A : List Nk} {a : Nk} (h : A.getLast? = some a) : a ∈ A := List.mem_of_getLast? h
theorem mem_first {A : List Nk} {a : Nk} (h : A.head? = some a) : a ∈ A := List.mem_of_head? h
theorem chain_take {b off : Nat} {nd : Nat → Array Value} {A B : List Nk} {x : Nk} (h : Chain b off nd (A ++ x :: B)) (hn : (ids (A ++ x :: B)).Nodup) : Chain b off (takeN nd A B) (A ++ B) := by
  have front : ∀ y post, B = y :: post → takeN nd A B y.1 = nodeV b off y.2 (lastP A) (firstP post) := by
    rintro y post rfl
    have h0 := h (A ++ [x]) y post (by simp)
    rw [takeN_first rfl fun a ha => ?_, h0]
    · rfl
    · have hn' : (ids ((A ++ [x]) ++ y :: post)).Nodup := by simpa using hn
      exact fun e => ids_ne hn' (v := a) (.inl (List.mem_append_left _ (mem_last ha))) e.symm
  intro pre y post e
  rcases List.append_eq_append_iff.1 e with ⟨m, h1, h2⟩ | ⟨m, h1, h2⟩
  · cases m with
    | nil =>
      rw [List.append_nil] at h1
      subst h1
      exact front y post (by simpa using h2)
    | cons c m =>
      subst h1
      subst h2
      have h0 := h (A ++ x :: c :: m) y post (by simp)
      have hn' : (ids ((A ++ x :: c :: m) ++ y :: post)).Nodup := by simpa using hn
      rw [takeN_other (fun a ha => ?_) fun d hd => ?_, h0]
      · rw [last_app, last_app, last_cons]
      · exact fun e => ids_ne hn' (v := a) (.inl (List.mem_append_left _ (mem_last ha))) e.symm
      · cases hd
        exact fun e => ids_ne hn' (v := c) (.inl (by simp)) e.symm
  · cases m with
    | nil =>
      rw [List.append_nil] at h1
      subst h1
      exact front y post (by simpa using h2.symm)
    | cons z m =>
      obtain ⟨rfl, rfl⟩ : y = z ∧ post = m ++ B := by simpa using h2
      subst h1
      have h0 := h pre y (m ++ x :: B) (by simp)
      have hn' : (ids (pre ++ y :: (m ++ x :: B))).Nodup := by simpa using hn
      cases m with
      | nil =>
        rw [takeN_last (a := y) (by simp) fun d hd => ?_, h0]
        · rfl
        · exact fun e => ids_ne hn' (v := d) (.inr (by simp [mem_first hd])) e.symm
      | cons c m =>
        rw [takeN_other (fun a ha => ?_) fun d hd => ?_, h0]
        · rfl
        · have ha' : (c :: m).getLast? = some a := by
            rw [List.getLast?_append] at ha
            rw [List.getLast?_cons_cons] at ha
            cases hx : (c :: m).getLast? with
            | none => simp at hx
            | some u => rw [hx] at ha; exact ha
          exact fun e => ids_ne hn' (v := a) (.inr (List.mem_append_left _ (mem_last ha'))) e.symm
        · exact fun e => ids_ne hn' (v := d) (.inr (by simp [mem_first hd])) e.symm
/-- A node comes last. -/
def putN (nd : Nat → Array Value) (b off x : Nat) (l : List Nk) : Nat → Array Value :=
  let n1 := updN (updN (updN nd x 1 (.pointer (some ⟨b, off, none⟩))) x 2 (lastP l)) x 3 (.pointer none)
  match l.getLast? with
  | none => n1
  | some a => updN n1 a.1 3 (.pointer (some ⟨x, 0, none⟩))
theorem putN_other {nd : Nat → Array Value} {b off x k : Nat} {l : List Nk} (hx : k ≠ x) (ha : ∀ a, l.getLast? = some a → k ≠ a.1) : putN nd b off x l k = nd k := by
  have h0 : updN (updN (updN nd x 1 (.pointer (some ⟨b, off, none⟩))) x 2 (lastP l)) x 3 (.pointer none) k = nd k := by rw [updN_other hx, updN_other hx, updN_other hx]
  unfold putN
  cases h1 : l.getLast? with
  | none => exact h0
  | some a => exact (updN_other (ha a h1)).trans h0
theorem putN_new {nd : Nat → Array Value} {b off x : Nat} {l : List Nk} {s : ByteArray} {i p q : Value} (h : nd x = #[.string s, i, p, q]) (ha : ∀ a, l.getLast? = some a → x ≠ a.1) : putN nd b off x l x = nodeV b off s (lastP l) (.pointer none) := by
  have h0 : updN (updN (updN nd x 1 (.pointer (some ⟨b, off, none⟩))) x 2 (lastP l)) x 3 (.pointer none) x = nodeV b off s (lastP l) (.pointer none) := by
    rw [updN_same, updN_same, updN_same, h]
    simp [nodeV]
  unfold putN
  cases h1 : l.getLast? with
  | none => exact h0
  | some a => exact (updN_other (ha a h1)).trans h0
theorem putN_last {nd : Nat → Array Value} {b off x : Nat} {l : List Nk} {a : Nk} (h1 : l.getLast? = some a) (hx : a.1 ≠ x) : putN nd b off x l a.1 = (nd a.1).setIfInBounds 3 (.pointer (some ⟨x, 0, none⟩)) := by
  unfold putN
  rw [h1]
  show updN _ a.1 3 _ a.1 = _
  rw [updN_same, updN_other hx, updN_other hx, updN_other hx]
theorem chain_put {b off : Nat} {nd : Nat → Array Value} {l : List Nk} {x : Nk} {i p q : Value} (h : Chain b off nd l) (hn : (ids (l ++ [x])).Nodup) (hx : nd x.1 = #[.string x.2, i, p, q]) : Chain b off (putN nd b off x.1 l) (l ++ [x]) := by
  have hne : ∀ y ∈ l, y.1 ≠ x.1 := fun y hy => ids_ne hn (.inl hy)
  intro pre y post e
  rcases List.eq_nil_or_concat post with rfl | ⟨post', z, rfl⟩
  · obtain ⟨rfl, e2⟩ := List.append_inj' e rfl
    cases e2
    exact putN_new hx fun a ha e => hne a (mem_last ha) e.symm
  · rw [List.concat_eq_append, ← List.cons_append, ← List.append_assoc] at e
    obtain ⟨rfl, e2⟩ := List.append_inj' e rfl
    cases e2
    have h0 := h pre y post' rfl
    cases post' with
    | nil =>
      rw [putN_last (a := y) (by simp) (hne y (by simp)), h0]
      rfl
    | cons c m =>
      have hn' : (ids (pre ++ y :: (c :: m ++ [x]))).Nodup := by simpa using hn
      rw [putN_other (hne y (by simp)) fun a ha => ?_, h0]
      · rfl
      · have ha' : (c :: m).getLast? = some a := by
          rw [List.getLast?_append, List.getLast?_cons_cons] at ha
          cases hx : (c :: m).getLast? with
          | none => simp at hx
          | some u => rw [hx] at ha; exact ha
        exact fun e => ids_ne hn' (v := a) (.inr (List.mem_append_left _ (mem_last ha'))) e.symm
theorem keys_mid {A B : List Nk} {x : Nk} (hn : (keysN (A ++ x :: B)).Nodup) : without (keysN (A ++ x :: B)) x.2 = keysN (A ++ B) := by
  unfold keysN at *
  rw [List.map_append, List.map_cons, List.nodup_append] at hn
  obtain ⟨_, h2, h3⟩ := hn
  rw [List.nodup_cons] at h2
  rw [List.map_append, List.map_cons, without_app, List.map_append]
  congr 1
  · exact without_not fun hm => h3 _ hm x.2 List.mem_cons_self rfl
  · have : without (x.2 :: B.map (·.2)) x.2 = without (B.map (·.2)) x.2 := by simp [without]
    rw [this]
    exact without_not h2.1
theorem find_mid {l : List Nk} {s : ByteArray} (h : s ∈ keysN l) : ∃ A x B, l = A ++ x :: B ∧ x.2 = s := by
  obtain ⟨x, hx, rfl⟩ := List.mem_map.1 h
  obtain ⟨A, B, rfl⟩ := List.append_of_mem hx
  exact ⟨A, x, B, rfl, rfl⟩
end Go.Proofs.YthfkcbnabnmnjabGreatDoor

namespace Go.Proofs.YthfkcbnabnmnjabGreatDoor
open Go.RowKit Go.Maps

/-- The nodes at these blocks. -/
def nodesP (I : List Nat) (nd : Nat → Array Value) : Part := ⟨fun k => k ∈ I, fun w => ∀ k ∈ I, w.heap[k]? = some (.cells (nd k) 137), fun _ _ h hs k hk => (hs k hk).trans (h k hk)⟩
theorem LawF.setNode {F : Nat → Prop} {w0 w : World} {I : List Nat} {nd : Nat → Array Value} {R : Part} (H : LawF F w0 w ((nodesP I nd).and R)) (k i : Nat) (hk : k ∈ I) (y : Value) : LawF F w0 (w.setCell ⟨k, i, none⟩ y) ((nodesP I (updN nd k i y)).and R) := by
  refine H.turn (A' := nodesP I (updN nd k i y)) (fun j hj => ?_) (fun j hj => ?_) ?_ fun j hj => .inl hj
  · by_cases e : j = k
    · subst e
      rw [updN_same]
      exact heap_setCell_same w j i _ _ y (H.q.1 j hj)
    · rw [updN_other e, heap_setCell_other _ _ _ _ e]
      exact H.q.1 j hj
  · rw [World.size_setCell]
    exact (H.lt j (.inl hj)).1
  · exact ⟨rfl, rfl, rfl, by rw [World.size_setCell]; exact Nat.le_refl _, fun j _ hn => heap_setCell_other _ _ _ _ fun e => hn (by rw [e]; exact hk)⟩
theorem box_cell {w : World} {k i : Nat} {cs : Array Value} {t : TypeId} {v : Value} (h : w.heap[k]? = some (.cells cs t)) (hi : cs[i]? = some v) : w.cell? ⟨k, i, none⟩ = some v := by
  simp [World.cell?, h, hi]
abbrev RowAt (F : Nat → Prop) (w0 w : World) (b : Nat) (hc : Array Value) (I : List Nat) (nd : Nat → Array Value) (R : Part) : Prop := LawF F w0 w ((boxP b (.cells hc 94)).and ((nodesP I nd).and R))
section
variable {F : Nat → Prop} {w0 w : World} {b : Nat} {hc : Array Value} {I : List Nat} {nd : Nat → Array Value} {R : Part}
theorem RowAt.head (H : RowAt F w0 w b hc I nd R) {i : Nat} {v : Value} (hi : hc[i]? = some v) : w.cell? ⟨b, i, none⟩ = some v := box_cell H.q.1 hi
theorem RowAt.headF (H : RowAt F w0 w b hc I nd R) (i : Nat) : w.frozen? ⟨b, i, none⟩ = false := frozen_of_row w b i _ _ H.q.1
theorem RowAt.node (H : RowAt F w0 w b hc I nd R) {k i : Nat} {v : Value} (hk : k ∈ I) (hi : (nd k)[i]? = some v) : w.cell? ⟨k, i, none⟩ = some v := box_cell (H.q.2.1.1 k hk) hi
theorem RowAt.nodeF (H : RowAt F w0 w b hc I nd R) {k : Nat} (hk : k ∈ I) (i : Nat) : w.frozen? ⟨k, i, none⟩ = false := frozen_of_row w k i _ _ (H.q.2.1.1 k hk)
theorem RowAt.setH (H : RowAt F w0 w b hc I nd R) (i : Nat) (y : Value) : RowAt F w0 (w.setCell ⟨b, i, none⟩ y) b (hc.setIfInBounds i y) I nd R := H.setAt i y
theorem RowAt.setN (H : RowAt F w0 w b hc I nd R) {k : Nat} (hk : k ∈ I) (i : Nat) (y : Value) : RowAt F w0 (w.setCell ⟨k, i, none⟩ y) b hc I (updN nd k i y) R := (H.rot.setNode k i hk y).rot
end
/-- What a row's three cells are. -/
structure RowC (hc : Array Value) (off : Nat) (l : List Nk) : Prop where
  first : hc[off]? = some (firstP l)
  last : hc[off + 1]? = some (lastP l)
  many : hc[off + 2]? = some (.int .i64 (l.length : Nat))
def putHr (hc : Array Value) (off x : Nat) (l : List Nk) : Array Value :=
  ((if l = [] then hc.setIfInBounds off (.pointer (some ⟨x, 0, none⟩)) else hc).setIfInBounds (off + 1) (.pointer (some ⟨x, 0, none⟩))).setIfInBounds (off + 2) (.int .i64 (l.length + 1 : Nat))
theorem many_up {n : Nat} (h : n < 9223372036854775807) : IntKind.i64.wrap ((n : Int) + 1) = ((n + 1 : Nat) : Int) := by
  rw [IntKind.wrap_i64]
  omega
theorem wrapR_id {a : Int} (h : -9223372036854775808 ≤ a ∧ a < 9223372036854775808) : wrap64 a = a := by unfold wrap64; omega
theorem set_get {hc : Array Value} {i j : Nat} {v y : Value} (h : hc[j]? = some v) (hne : i ≠ j) : (hc.setIfInBounds i y)[j]? = some v := by
  rw [Array.getElem?_setIfInBounds, if_neg hne, h]
theorem last_nil : lastP [] = .pointer none := rfl
theorem last_snoc (l : List Nk) (a : Nk) : lastP (l ++ [a]) = .pointer (some ⟨a.1, 0, none⟩) := by simp [lastP, ptN]
theorem getLast_snoc (l : List Nk) (a : Nk) : (l ++ [a]).getLast? = some a := by simp
set_option maxRecDepth 100000 in
set_option maxHeartbeats 4000000 in
theorem putLast_any {F : Nat → Prop} {w0 w : World} {b off x : Nat} {hc : Array Value} {I : List Nat} {nd : Nat → Array Value} {R : Part} {l : List Nk} {s : ByteArray} {i p q : Value} (H : RowAt F w0 w b hc I nd R) (hr : RowC hc off l) (hl : l.length < maxLen) (hx : x ∈ I) (hi : ∀ y ∈ l, y.1 ∈ I) (hne : ∀ y ∈ l, y.1 ≠ x) (hv : nd x = #[.string s, i, p, q]) (h4 : ∀ y ∈ l, (nd y.1).size = 4) :
    Calls Tryz.prog 71 #[.pointer (some ⟨b, off, none⟩), .pointer (some ⟨x, 0, none⟩)] w fun e w' => e = .returned (.tuple #[]) ∧ RowAt F w0 w' b (putHr hc off x l) I (putN nd b off x l) R := by
  obtain ⟨hr0, hr1, hr2⟩ := hr
  obtain ⟨m, hm⟩ : ∃ m, l.length = m := ⟨_, rfl⟩
  rw [hm] at hr2 hl
  have e1 : wrap64 ((m : Int) + 1) = ((m + 1 : Nat) : Int) := (wrapR_id (by unfold maxLen at hl; omega)).trans (by omega)
  rcases List.eq_nil_or_concat l with rfl | ⟨l0, a, rfl⟩
  · rw [last_nil] at hr1
    have c1 := H.head hr1
    have g1 := H.nodeF hx 1
    have n1 := H.node hx (i := 1) (v := i) (by rw [hv]; rfl)
    have H1 := H.setN hx 1 (.pointer (some ⟨b, off, none⟩))
    have x1 : updN nd x 1 (.pointer (some ⟨b, off, none⟩)) x = #[.string s, .pointer (some ⟨b, off, none⟩), p, q] := by rw [updN_same, hv]; simp
    have g2 := H1.nodeF hx 2
    have n2 := H1.node hx (i := 2) (v := p) (by rw [x1]; rfl)
    have H2 := H1.setN hx 2 (.pointer none)
    have x2 : updN (updN nd x 1 (.pointer (some ⟨b, off, none⟩))) x 2 (.pointer none) x = #[.string s, .pointer (some ⟨b, off, none⟩), .pointer none, q] := by rw [updN_same, x1]; simp
    have g3 := H2.nodeF hx 3
    have n3 := H2.node hx (i := 3) (v := q) (by rw [x2]; rfl)
    have H3 := H2.setN hx 3 (.pointer none)
    have c3 := H3.head hr1
    have f0 := H3.headF off
    have k0 := H3.head hr0
    have H4 := H3.setH off (.pointer (some ⟨x, 0, none⟩))
    have f1 := H4.headF (off + 1)
    have k1 := H4.head (set_get hr1 (by omega))
    have H5 := H4.setH (off + 1) (.pointer (some ⟨x, 0, none⟩))
    have f2 := H5.headF (off + 2)
    have k2 := H5.head (set_get (set_get hr2 (by omega)) (by omega))
    have H6 := hide (H5.setH (off + 2) (.int .i64 (m + 1 : Nat)))
    clear H H1 H2 H3 H4 H5 x1 x2
    go_enter Tryz.func71, Tryz.ntmps71
    go_wp2
    go_end0
    refine ⟨rfl, ?_⟩
    unfold putHr putN
    rw [if_pos rfl, hm]
    exact H6.out
  · rw [List.concat_eq_append] at *
    rw [last_snoc] at hr1
    have ha : a.1 ∈ I := hi a (by simp)
    have hax : a.1 ≠ x := hne a (by simp)
    obtain ⟨a1, ea⟩ : ∃ a1, a.1 = a1 := ⟨_, rfl⟩
    have hs4 : (nd a1).size = 4 := by rw [← ea]; exact h4 a (by simp)
    rw [ea] at ha hax hr1
    obtain ⟨va, hva⟩ : ∃ v, (nd a1)[3]? = some v := ⟨_, Array.getElem?_eq_getElem (by omega)⟩
    have c1 := H.head hr1
    have g1 := H.nodeF hx 1
    have n1 := H.node hx (i := 1) (v := i) (by rw [hv]; rfl)
    have H1 := H.setN hx 1 (.pointer (some ⟨b, off, none⟩))
    have x1 : updN nd x 1 (.pointer (some ⟨b, off, none⟩)) x = #[.string s, .pointer (some ⟨b, off, none⟩), p, q] := by rw [updN_same, hv]; simp
    have g2 := H1.nodeF hx 2
    have n2 := H1.node hx (i := 2) (v := p) (by rw [x1]; rfl)
    have H2 := H1.setN hx 2 (.pointer (some ⟨a1, 0, none⟩))
    have x2 : updN (updN nd x 1 (.pointer (some ⟨b, off, none⟩))) x 2 (.pointer (some ⟨a1, 0, none⟩)) x = #[.string s, .pointer (some ⟨b, off, none⟩), .pointer (some ⟨a1, 0, none⟩), q] := by rw [updN_same, x1]; simp
    have g3 := H2.nodeF hx 3
    have n3 := H2.node hx (i := 3) (v := q) (by rw [x2]; rfl)
    have H3 := H2.setN hx 3 (.pointer none)
    have c3 := H3.head hr1
    have f0 := H3.nodeF ha 3
    have k0 := H3.node ha (i := 3) (v := va) (by rw [updN_other hax, updN_other hax, updN_other hax]; exact hva)
    have H4 := H3.setN ha 3 (.pointer (some ⟨x, 0, none⟩))
    have f1 := H4.headF (off + 1)
    have k1 := H4.head hr1
    have H5 := H4.setH (off + 1) (.pointer (some ⟨x, 0, none⟩))
    have f2 := H5.headF (off + 2)
    have k2 := H5.head (set_get hr2 (by omega))
    have H6 := hide (H5.setH (off + 2) (.int .i64 (m + 1 : Nat)))
    clear H H1 H2 H3 H4 H5 x1 x2
    go_enter Tryz.func71, Tryz.ntmps71
    go_wp2
    go_end0
    refine ⟨rfl, ?_⟩
    unfold putHr putN
    rw [if_neg (by simp), hm, getLast_snoc, last_snoc]
    simp only [ea]
    exact H6.out
end Go.Proofs.YthfkcbnabnmnjabGreatDoor
