/- What the statements of layer 4 need of package bloom: its contracts, over a word 'Fil' that says which places a filter in memory has set. Nothing of the program is walked here but the chapter's example. Conditions: the contracts. -/
import Derived.Test.YtidnjcoljfccdaaOps2
import Derived.Test.YtidnjcoljfccdaaBloomM
import Derived.Laws.AppendOwn
namespace Go.Proofs.Ytidnjcoljfccdaa
open Go.RowKit

theorem gr_refl (w : World) (row : Option Nat) : w.grownBy w row := ⟨rfl, rfl, rfl, Nat.le_refl _, fun _ _ _ => rfl⟩
theorem gr_any {a b : World} (h : a.grownBy b none) (row : Option Nat) : a.grownBy b row := ⟨h.1, h.2, h.3, h.4, fun k hk _ => h.5 k hk (by simp)⟩
theorem gr_trans {a b c : World} {row : Option Nat} (h : a.grownBy b row) (k : b.grownBy c row) : a.grownBy c row :=
  ⟨k.1.trans h.1, k.2.trans h.2, k.3.trans h.3, Nat.le_trans h.4 k.4, fun i hi hr => (k.5 i (Nat.lt_of_lt_of_le hi h.4) hr).trans (h.5 i hi hr)⟩
/-- What is written is new. -/
theorem gr_new {a b c : World} {row : Option Nat} {n : Nat} (h : a.grownBy b row) (k : b.grownBy c (some n)) (hn : a.heap.size ≤ n) : a.grownBy c row :=
  ⟨k.1.trans h.1, k.2.trans h.2, k.3.trans h.3, Nat.le_trans h.4 k.4, fun i hi hr => (k.5 i (Nat.lt_of_lt_of_le hi h.4) (fun e => by cases e; omega)).trans (h.5 i hi hr)⟩
theorem gr_below {w a b : World} {row : Option Nat} (hB : Below w.heap.size w a) (h : a.grownBy b row) (hr : ∀ n, row = some n → w.heap.size ≤ n) : Below w.heap.size w b := hB.grown h hB.size hr
theorem gr_of_below {a b : World} (h : Below a.heap.size a b) : a.grownBy b none := ⟨h.os, h.tape, h.output, h.size, fun k hk _ => h.block k hk⟩
theorem below_gr {a b : World} (h : a.grownBy b none) : Below a.heap.size a b := (Below.refl _ _).grown h (Nat.le_refl _) (fun _ e => by cases e)

/-- A pointer to a block. -/
def ptr (b : Nat) : Value := .pointer (some ⟨b, 0, none⟩)
/-- The contracts of package bloom. -/
structure BloomLib (Fil : World → Nat → Nat → List Nat → Prop) : Prop where
  lt : ∀ {w b sd S}, Fil w b sd S → b < w.heap.size
  good : ∀ {w b sd S}, Fil w b sd S → Good S ∧ sd < 18446744073709551616
  keep : ∀ {w w' b sd S}, Fil w b sd S → w'.heap[b]? = w.heap[b]? → Fil w' b sd S
  new : ∀ (sd : Nat), sd < 18446744073709551616 → ∀ w : World, Calls Try.prog 10 #[.int .u64 sd] w fun e w' => ∃ b, e = .returned (.pointer (some ⟨b, 0, none⟩)) ∧ w.heap.size ≤ b ∧ Fil w' b sd [] ∧ w.grownBy w' none
  add : ∀ {w b sd S}, Fil w b sd S → ∀ s : ByteArray, s.size ≤ 300 → Calls Try.prog 11 #[.pointer (some ⟨b, 0, none⟩), .string s] w fun e w' => e = .returned (.bool (hasS S (pls sd s.data.toList))) ∧ Fil w' b sd (addS S (pls sd s.data.toList)) ∧ w.grownBy w' (some b)
  has : ∀ {w b sd S}, Fil w b sd S → ∀ s : ByteArray, s.size ≤ 300 → Calls Try.prog 13 #[.pointer (some ⟨b, 0, none⟩), .string s] w fun e w' => e = .returned (.bool (hasS S (pls sd s.data.toList))) ∧ Fil w' b sd S ∧ w.grownBy w' none
  clear : ∀ {w b sd S}, Fil w b sd S → Calls Try.prog 15 #[.pointer (some ⟨b, 0, none⟩)] w fun e w' => (∃ v, e = .returned v) ∧ Fil w' b sd [] ∧ w.grownBy w' (some b)
  ones : ∀ {w b sd S}, Fil w b sd S → Calls Try.prog 17 #[.pointer (some ⟨b, 0, none⟩)] w fun e w' => e = .returned (.int .i64 S.length) ∧ Fil w' b sd S ∧ w.grownBy w' none
  copy : ∀ {w b sd S}, Fil w b sd S → Calls Try.prog 16 #[.pointer (some ⟨b, 0, none⟩)] w fun e w' => ∃ b', e = .returned (.pointer (some ⟨b', 0, none⟩)) ∧ w.heap.size ≤ b' ∧ Fil w' b' sd S ∧ w.grownBy w' none

/-- The texts of these calls. -/
def texts (os : List (Int × ByteArray)) : List (List UInt8) := os.map fun o => o.2.data.toList
theorem texts_len (os : List (Int × ByteArray)) : (texts os).length = os.length := by unfold texts; rw [List.length_map]
theorem texts_step (seed : Nat) (os : List (Int × ByteArray)) (k : Nat) (h : k < os.length) (s : ByteArray) (hs : s = os[k].2) :
    addAll seed [] ((texts os).take (k + 1)) = addS (addAll seed [] ((texts os).take k)) (pls seed s.data.toList) := by
  have h' : k < (texts os).length := by rw [texts_len]; exact h
  have e : (texts os)[k] = s.data.toList := by
    rw [hs]
    exact List.getElem_map _
  rw [List.take_succ_eq_append_getElem h', all_snoc, e]
theorem texts_all (os : List (Int × ByteArray)) (k : Nat) (h : os.length ≤ k) : (texts os).take k = texts os := List.take_of_length_le (by rw [texts_len]; exact h)
theorem texts_mem (os : List (Int × ByteArray)) (k : Nat) (h : k < os.length) (s : ByteArray) (hs : s = os[k].2) : s.data.toList ∈ texts os := by
  rw [hs]
  exact List.mem_map_of_mem (List.getElem_mem h)

variable {Fil : World → Nat → Nat → List Nat → Prop}
theorem BloomLib.kept (L : BloomLib Fil) {w w' : World} {b sd : Nat} {S : List Nat} {row : Option Nat} (h : Fil w b sd S) (hg : w.grownBy w' row) (hr : row ≠ some b) : Fil w' b sd S := L.keep h (hg.block b (L.lt h) (fun e => hr e.symm))
theorem awake_len (l : List UInt8) : ∃ n : Nat, (addS (addS [] (pls 1 l)) (pls 1 l)).length = n ∧ 1 ≤ n ∧ n ≤ 3 := by
  refine ⟨_, rfl, ?_, ?_⟩
  · rw [add_had _ _ (has_add _ _)]
    have h := add_not (pls 1 l) [] rfl
    simp only [List.length_nil] at h
    omega
  · rw [add_had _ _ (has_add _ _)]
    have h := (len_add (pls 1 l) []).2
    rw [pls_len] at h
    simpa using h
theorem add_a (L : BloomLib Fil) {w : World} {b : Nat} {S : List Nat} (h : Fil w b 1 S) : Calls Try.prog 11 #[.pointer (some ⟨b, 0, none⟩), .string ⟨#[97]⟩] w fun e w' => e = .returned (.bool (hasS S (pls 1 [97]))) ∧ Fil w' b 1 (addS S (pls 1 [97])) ∧ w.grownBy w' (some b) :=
  L.add h ⟨#[97]⟩ (by decide)
set_option maxHeartbeats 1000000 in
theorem awake_any (L : BloomLib Fil) (w : World) : Calls Try.prog 8 #[] w fun e w' => e = .returned (.bool true) ∧ Below w.heap.size w w' := by
  obtain ⟨n, hn, n1, n3⟩ := awake_len [97]
  have HN := hide hn
  clear hn
  have hB : Below w.heap.size w w := Below.refl _ _
  go_enter Try.func8, Try.ntmps8
  go_wp2_with (first
    | (go_at_call 10; refine (L.new 1 (by decide) _).mono ?_; rintro e w1 ⟨b, rfl, hb, hF, hg⟩; replace hB := gr_below hB hg (fun _ e => by cases e); clear hg)
    | (go_at_call 11; refine (add_a L hF).mono ?_; rintro e w1 ⟨he, hF2, hg⟩; replace hB := gr_below hB hg (fun n e => by cases e; exact hb); clear hg hF; have hF := hF2; clear hF2; first | (rw [has_nil] at he; subst he) | (rw [has_add] at he; subst he))
    | (go_at_call 17; refine (L.ones hF).mono ?_; rintro e w1 ⟨he, hF2, hg⟩; replace hB := gr_below hB hg (fun _ e => by cases e); clear hg hF; have hF := hF2; clear hF2; rw [HN.out] at he; subst he))
  go_ret
  exact ⟨ret_bool (decide_eq_true (by omega)), hB⟩
end Go.Proofs.Ytidnjcoljfccdaa
