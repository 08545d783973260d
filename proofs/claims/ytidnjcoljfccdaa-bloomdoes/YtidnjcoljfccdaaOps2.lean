/- Slices of pairs (a number, a text) that came in, and the statements' own helper that looks whether they are few and short. Conditions: none. -/
import Derived.Test.YtidnjcoljfccdaaKit0
namespace Go.Proofs.Ytidnjcoljfccdaa
open Go.RowKit

/-- Pairs that lie in memory: at least one. -/
structure Op1 (w : World) (a : Option Addr) (len cap : Nat) (os : List (Int × ByteArray)) (b off : Nat) : Prop where
  at_ : a = some ⟨b, off, none⟩
  one : 1 ≤ len
  cap_ : len ≤ cap
  len_ : os.length = len
  wf : ∀ o ∈ os, (Lit.int .i64 o.1).wf = true
  num : ∀ (i : Nat) (h : i < os.length), w.cell? ⟨b, off + i * 2, none⟩ = some (.int .i64 os[i].1)
  txt : ∀ (i : Nat) (h : i < os.length), w.cell? ⟨b, off + i * 2 + 1, none⟩ = some (.string os[i].2)
  old : b < w.heap.size
def OpsAt (w : World) (a : Option Addr) (len cap : Nat) (os : List (Int × ByteArray)) : Prop :=
  (len = 0 ∧ os = []) ∨ ∃ b off, Op1 w a len cap os b off
theorem Op1.on {w w' : World} {a : Option Addr} {len cap : Nat} {os : List (Int × ByteArray)} {b off : Nat} (h : Op1 w a len cap os b off) (hb : Below w.heap.size w w') : Op1 w' a len cap os b off :=
  ⟨h.at_, h.one, h.cap_, h.len_, h.wf, fun i hi => (hb.cell (p := ⟨b, off + i * 2, none⟩) h.old).trans (h.num i hi), fun i hi => (hb.cell (p := ⟨b, off + i * 2 + 1, none⟩) h.old).trans (h.txt i hi), Nat.lt_of_lt_of_le h.old hb.size⟩
theorem OpsAt.on {w w' : World} {a : Option Addr} {len cap : Nat} {os : List (Int × ByteArray)} (h : OpsAt w a len cap os) (hb : Below w.heap.size w w') : OpsAt w' a len cap os := by
  rcases h with h | ⟨b, off, r⟩
  · exact .inl h
  · exact .inr ⟨b, off, r.on hb⟩
theorem OpsAt.len_ {w : World} {a : Option Addr} {len cap : Nat} {os : List (Int × ByteArray)} (h : OpsAt w a len cap os) : os.length = len := by
  rcases h with ⟨h1, h2⟩ | ⟨b, off, r⟩
  · rw [h1, h2]; rfl
  · exact r.len_
/-- Where there is one at i, the slice is written out, and its cells are. -/
theorem OpsAt.at {w : World} {a : Option Addr} {len cap : Nat} {os : List (Int × ByteArray)} (h : OpsAt w a len cap os) (i : Nat) (hi : i < os.length) :
    ∃ b off, a = some ⟨b, off, none⟩ ∧ b < w.heap.size ∧ w.cell? ⟨b, off + i * 2, none⟩ = some (.int .i64 os[i].1) ∧ w.cell? ⟨b, off + i * 2 + 1, none⟩ = some (.string os[i].2) := by
  rcases h with ⟨h1, h2⟩ | ⟨b, off, r⟩
  · subst h2; exact absurd hi (Nat.not_lt_zero _)
  · exact ⟨b, off, r.at_, r.old, r.num i hi, r.txt i hi⟩

theorem OpsAt.at2 {w : World} {c off : Nat} {len cap : Nat} {os : List (Int × ByteArray)} (h : OpsAt w (some ⟨c, off, none⟩) len cap os) (i : Nat) (hi : i < os.length) :
    c < w.heap.size ∧ w.cell? ⟨c, off + i * 2, none⟩ = some (.int .i64 os[i].1) ∧ w.cell? ⟨c, off + i * 2 + 1, none⟩ = some (.string os[i].2) := by
  obtain ⟨b, o, e, h1, h2, h3⟩ := h.at i hi
  cases e
  exact ⟨h1, h2, h3⟩

/-- Few and short. -/
def Short (os : List (Int × ByteArray)) (most : Int) : Prop := (os.length : Int) ≤ most ∧ ∀ o ∈ os, o.2.size ≤ 300
def ShortPost (os : List (Int × ByteArray)) (most : Int) (w : World) (e : Ending) (w' : World) : Prop := ∃ r : Bool, e = .returned (.bool r) ∧ (r = true ↔ Short os most) ∧ w = w'
set_option maxHeartbeats 1000000 in
theorem short_any {w : World} {a : Option Addr} {len cap : Nat} {os : List (Int × ByteArray)} (h : OpsAt w a len cap os) (most : Int) (hm : most ≤ 1000) :
    Calls Try.prog 9 #[.slice a len cap, .int .i64 most] w (ShortPost os most w) := by
  have hl := h.len_
  by_cases hc : (len : Int) ≤ most
  · go_enter Try.func9, Try.ntmps9
    go_wp2
    go_loop [5] (fun i => ∃ k : Nat, k ≤ len ∧ i = .int .i64 k ∧ Hid (∀ (j : Nat) (hj : j < os.length), j < k → os[j].2.size ≤ 300)) (fun i => len - (intOf i).toNat)
    case atStart => exact ⟨0, Nat.zero_le _, rfl, fun j _ h => absurd h (Nat.not_lt_zero _)⟩
    case round =>
      obtain ⟨k, hk, rfl, HK⟩ := hrel
      by_cases hlt : k < len
      · obtain ⟨b, off, rfl, -, -, hct⟩ := h.at k (by omega)
        obtain ⟨s, hs⟩ : ∃ s, s = (os[k]'(by omega)).2 := ⟨_, rfl⟩
        rw [← hs] at hct
        by_cases h3 : s.size ≤ 300
        · have h3i : (s.size : Int) ≤ 300 := by omega
          have HS : Hid (∀ (j : Nat) (hj : j < os.length), j < k + 1 → os[j].2.size ≤ 300) := by
            intro j hj hjk
            by_cases e : j = k
            · subst e; rw [← hs]; exact h3
            · exact HK.out j hj (by omega)
          clear hs
          go_wp2
          go_round
          case rel => exact ⟨k + 1, by omega, by go_num, HS⟩
          case measure => simp [intOf]; omega
        · have h3i : (300 : Int) < (s.size : Int) := by omega
          have HN : Hid (¬ Short os most) := fun hS => h3 (by rw [hs]; exact hS.2 _ (List.getElem_mem _))
          clear hs
          go_wp2
          go_ret
          exact ⟨false, rfl, ⟨fun h => (by cases h), fun h => absurd h HN.out⟩, rfl⟩
      · go_wp2
        go_ret
        refine ⟨true, rfl, ⟨fun _ => ⟨by omega, fun o ho => ?_⟩, fun _ => rfl⟩, rfl⟩
        obtain ⟨j, hj, rfl⟩ := List.mem_iff_getElem.1 ho
        exact HK.out j hj (by omega)
  · go_enter Try.func9, Try.ntmps9
    go_wp2
    go_ret
    exact ⟨false, rfl, ⟨fun h => (by cases h), fun h => absurd h.1 (by omega)⟩, rfl⟩
end Go.Proofs.Ytidnjcoljfccdaa
