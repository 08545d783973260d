/- Where a text stands in the document's own table. Conditions: at most 5000 pairs. -/
import Derived.Test.YtncblaofgdcfmaaTableRef
namespace Go.Proofs.Ytncblaofgdcfmaa
open Go.RowKit Go.Shelf

theorem bytes_ltB : ∀ l m : List UInt8, Op.bytesLess l m = ltB l m
  | _, [] => by cases ‹List UInt8› <;> rfl
  | [], _ :: _ => rfl
  | a :: l, c :: m => by
    unfold Op.bytesLess ltB
    rw [bytes_ltB l m]
    by_cases h1 : a < c
    · simp [h1]
    · by_cases h2 : c < a
      · have : a ≠ c := fun e => by subst e; exact h1 h2
        simp [h1, h2, this]
      · have : a = c := UInt8.le_antisymm (UInt8.not_lt.1 h2) (UInt8.not_lt.1 h1)
        subst this
        simp [h1]
theorem ltK_bytes (a c : ByteArray) : Op.bytesLess a.toList c.toList = ltK a c := by
  rw [ByteArray.toList_eq, ByteArray.toList_eq]
  exact bytes_ltB _ _
/-- The pair at a place of a row. -/
theorem pair_at {w : World} {n0 n cap : Nat} {pa : Option Addr} {l : List Kv} (h : w.ownsRow n0 45 2 (.slice pa n cap) l.length (kvV l)) (hn : l.length = n) {i : Nat} {p : Kv} (hi : l[i]? = some p) : ∃ g, pa = some ⟨g, 0, none⟩ ∧ w.cell? ⟨g, i * 2, none⟩ = some (.string p.1) ∧ w.cell? ⟨g, i * 2 + 1, none⟩ = some (.int .i64 p.2) := by
  have hl := (List.getElem?_eq_some_iff.1 hi).1
  obtain ⟨g, cap', e⟩ := own_form h (by omega)
  cases e
  obtain ⟨k1, k2⟩ := kvV_at hi
  rw [← hn] at h
  exact ⟨g, rfl, (h.cellAt _ (by omega)).trans k1, (h.cellAt _ (by omega)).trans k2⟩
theorem at_get {l A B : List Kv} {k : ByteArray} (h : AtK l k A B) {j : Nat} (hj : j < A.length) : ∃ p, l[j]? = some p ∧ ltK p.1 k = true := by
  refine ⟨A[j], ?_, h.lt _ (List.getElem_mem hj)⟩
  rw [h.eq, List.getElem?_append_left hj]
  exact List.getElem?_eq_getElem hj
theorem at_here {l A B : List Kv} {k : ByteArray} {p : Kv} (h : AtK l k A (p :: B)) : l[A.length]? = some p ∧ ltK p.1 k = false := by
  refine ⟨?_, h.ge _ _ rfl⟩
  rw [h.eq, List.getElem?_append_right (Nat.le_refl _)]
  simp
set_option maxRecDepth 100000 in
set_option maxHeartbeats 2000000 in
theorem rat_is {w0 w : World} {r : Nat} {st : Ts} {v : Value} {R : Part} (H : Law w0 w ((refP w0.heap.size r st v).and R)) (hn : SmallT st 5000) (s : ByteArray) (A B : List Kv) (hA : AtK st.l s A B) (q : Bool) (hq : q = true ↔ ∃ x B', B = (s, x) :: B') :
    Calls Try.prog 29 #[.pointer (some ⟨r, 0, none⟩), .string s] w fun e w' => e = .returned (.tuple #[.int .i64 (A.length : Nat), .bool q]) ∧ Law w0 w' ((refP w0.heap.size r st v).and R) := by
  obtain ⟨pa, cap, rfl⟩ := own_shape H.ref.2
  obtain ⟨n, hln⟩ : ∃ n, st.l.length = n := ⟨_, rfl⟩
  obtain ⟨m, hlm⟩ : ∃ m, A.length = m := ⟨_, rfl⟩
  have hmn : m ≤ n := by rw [← hln, ← hlm, hA.eq, List.length_append]; omega
  have hn5 : n ≤ 5000 := by rw [← hln]; exact hn.len
  rw [hln] at H ⊢
  rw [hlm]
  go_enter Try.func29, Try.ntmps29
  go_wp2
  go_loopw [6] (fun i wr => ∃ k : Nat, k ≤ m ∧ i = .int .i64 k ∧ Law w0 wr ((refP w0.heap.size r st (.slice pa n cap)).and R)) (fun i _ => n - (intOf i).toNat)
  case atStart => exact ⟨0, Nat.zero_le _, rfl, H⟩
  case round =>
    clear H
    obtain ⟨k, hk, rfl, H⟩ := hrel
    obtain ⟨c0, -, -⟩ := cells3 H.ref.1
    by_cases hlt : k < m
    · obtain ⟨p, hp, hlp⟩ := at_get hA (j := k) (by omega)
      obtain ⟨g, rfl, c1, c2⟩ := pair_at H.ref.2 hln hp
      have hb : Op.bytesLess p.1.toList s.toList = true := (ltK_bytes _ _).trans hlp
      have hki : (k : Int) < (n : Int) := by omega
      clear hp hlp
      obtain ⟨x, y⟩ := p
      go_wp2
      go_roundw
      case rel => exact ⟨k + 1, hlt, by go_num, H⟩
      case measure => simp [intOf]; omega
    · obtain rfl : k = m := by omega
      cases B with
      | nil =>
        have hkn : k = n := by rw [← hln, ← hlm, hA.eq, List.append_nil]
        have hq0 : q = false := by
          cases q with
          | false => rfl
          | true => obtain ⟨x, B', e⟩ := hq.1 rfl; cases e
        have hki : (n : Int) ≤ (k : Int) := by omega
        have hd : decide ((k : Int) < (n : Int)) = false := decide_eq_false (by omega)
        subst hq0
        clear hkn hq
        go_wp2
        go_quiet (fail)
        go_wp2
        go_ret2
        exact ⟨rfl, H.drewN _⟩
      | cons p B =>
        obtain ⟨hp, hlp⟩ := at_here hA
        rw [hlm] at hp
        obtain ⟨g, rfl, c1, c2⟩ := pair_at H.ref.2 hln hp
        have hb : Op.bytesLess p.1.toList s.toList = false := (ltK_bytes _ _).trans hlp
        have hkn : k < n := by rw [← hln]; exact (List.getElem?_eq_some_iff.1 hp).1
        have hki : (k : Int) < (n : Int) := by omega
        have hd : decide ((k : Int) < (n : Int)) = true := decide_eq_true hki
        clear hp hlp
        by_cases e : p.1 = s
        · have hq1 : q = true := hq.2 ⟨p.2, B, by rw [← e]⟩
          subst hq1
          obtain ⟨x, y⟩ := p
          simp only at e
          subst e
          clear hA hq
          go_wp2
          go_quiet (fail)
          go_wp2
          go_ret2
          exact ⟨rfl, H.drewN _⟩
        · have hq0 : q = false := by
            cases q with
            | false => rfl
            | true => obtain ⟨x, B', e'⟩ := hq.1 rfl; cases e'; exact (e rfl).elim
          have hne := str_ne e
          subst hq0
          obtain ⟨x, y⟩ := p
          clear hA hq e
          go_wp2
          go_quiet (fail)
          go_wp2
          go_ret2
          exact ⟨rfl, H.drewN _⟩
end Go.Proofs.Ytncblaofgdcfmaa
