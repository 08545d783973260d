/- Slices of triples (two numbers, a text) that came in, and the statements' own helper that looks whether they are few and short. Conditions: none. -/
import Derived.Test.YtpjmhiokhoplmaaKit0
namespace Go.Proofs.Ytpjmhiokhoplmaa
open Go.RowKit

/-- A call: its kind, how often, its text. -/
abbrev Op := Int × Int × ByteArray
/-- Triples that lie in memory: at least one. -/
structure Op1 (w : World) (a : Option Addr) (len cap : Nat) (os : List Op) (b off : Nat) : Prop where
  at_ : a = some ⟨b, off, none⟩
  one : 1 ≤ len
  cap_ : len ≤ cap
  len_ : os.length = len
  wf : ∀ o ∈ os, (Lit.int .i64 o.1).wf = true ∧ (Lit.int .i64 o.2.1).wf = true
  num : ∀ (i : Nat) (h : i < os.length), w.cell? ⟨b, off + i * 3, none⟩ = some (.int .i64 os[i].1)
  tms : ∀ (i : Nat) (h : i < os.length), w.cell? ⟨b, off + i * 3 + 1, none⟩ = some (.int .i64 os[i].2.1)
  txt : ∀ (i : Nat) (h : i < os.length), w.cell? ⟨b, off + i * 3 + 2, none⟩ = some (.string os[i].2.2)
  old : b < w.heap.size
def OpsAt (w : World) (a : Option Addr) (len cap : Nat) (os : List Op) : Prop :=
  (len = 0 ∧ os = []) ∨ ∃ b off, Op1 w a len cap os b off
theorem Op1.on {w w' : World} {a : Option Addr} {len cap : Nat} {os : List Op} {b off : Nat} (h : Op1 w a len cap os b off) (hb : Below w.heap.size w w') : Op1 w' a len cap os b off :=
  ⟨h.at_, h.one, h.cap_, h.len_, h.wf, fun i hi => (hb.cell (p := ⟨b, off + i * 3, none⟩) h.old).trans (h.num i hi), fun i hi => (hb.cell (p := ⟨b, off + i * 3 + 1, none⟩) h.old).trans (h.tms i hi), fun i hi => (hb.cell (p := ⟨b, off + i * 3 + 2, none⟩) h.old).trans (h.txt i hi), Nat.lt_of_lt_of_le h.old hb.size⟩
theorem OpsAt.on {w w' : World} {a : Option Addr} {len cap : Nat} {os : List Op} (h : OpsAt w a len cap os) (hb : Below w.heap.size w w') : OpsAt w' a len cap os := by
  rcases h with h | ⟨b, off, r⟩
  · exact .inl h
  · exact .inr ⟨b, off, r.on hb⟩
theorem OpsAt.len_ {w : World} {a : Option Addr} {len cap : Nat} {os : List Op} (h : OpsAt w a len cap os) : os.length = len := by
  rcases h with ⟨h1, h2⟩ | ⟨b, off, r⟩
  · rw [h1, h2]; rfl
  · exact r.len_
/-- One call's cells. -/
structure OpCell (w : World) (c off k : Nat) (kd tm : Int) (s : ByteArray) : Prop where
  old : c < w.heap.size
  num : w.cell? ⟨c, off + k * 3, none⟩ = some (.int .i64 kd)
  tms : w.cell? ⟨c, off + k * 3 + 1, none⟩ = some (.int .i64 tm)
  txt : w.cell? ⟨c, off + k * 3 + 2, none⟩ = some (.string s)
theorem OpCell.on {w w' : World} {c off k n : Nat} {kd tm : Int} {s : ByteArray} (h : OpCell w c off k kd tm s) (hn : w.heap.size ≤ n) (hb : Below n w w') : OpCell w' c off k kd tm s :=
  ⟨Nat.lt_of_lt_of_le h.old hb.size, (hb.cell (p := ⟨c, off + k * 3, none⟩) (Nat.lt_of_lt_of_le h.old hn)).trans h.num, (hb.cell (p := ⟨c, off + k * 3 + 1, none⟩) (Nat.lt_of_lt_of_le h.old hn)).trans h.tms, (hb.cell (p := ⟨c, off + k * 3 + 2, none⟩) (Nat.lt_of_lt_of_le h.old hn)).trans h.txt⟩

/-- Few and short. -/
def Short (os : List Op) : Prop := os.length ≤ 60 ∧ ∀ o ∈ os, o.2.2.size ≤ 300 ∧ o.2.1 ≤ 100
def ShortPost (os : List Op) (w : World) (e : Ending) (w' : World) : Prop := ∃ r : Bool, e = .returned (.bool r) ∧ (r = true ↔ Short os) ∧ w = w'
/-- Where there is one at k, the slice is written out, and its cells are. -/
theorem OpsAt.at {w : World} {a : Option Addr} {len cap : Nat} {os : List Op} (h : OpsAt w a len cap os) (i : Nat) (hi : i < os.length) :
    ∃ b off kd tm s, a = some ⟨b, off, none⟩ ∧ OpCell w b off i kd tm s ∧ os[i] = (kd, tm, s) ∧ (-9223372036854775808 ≤ kd ∧ kd < 9223372036854775808) ∧ (-9223372036854775808 ≤ tm ∧ tm < 9223372036854775808) := by
  rcases h with ⟨h1, h2⟩ | ⟨b, off, r⟩
  · subst h2; exact absurd hi (Nat.not_lt_zero _)
  · exact ⟨b, off, os[i].1, os[i].2.1, os[i].2.2, r.at_, ⟨r.old, r.num i hi, r.tms i hi, r.txt i hi⟩, rfl, i64_wf (r.wf _ (List.getElem_mem hi)).1, i64_wf (r.wf _ (List.getElem_mem hi)).2⟩
theorem short_at {os : List Op} (h : Short os) {k : Nat} (hk : k < os.length) {kd tm : Int} {s : ByteArray} (e : os[k] = (kd, tm, s)) : s.size ≤ 300 ∧ tm ≤ 100 := by
  have := h.2 _ (List.getElem_mem hk)
  rw [e] at this
  exact this
set_option maxHeartbeats 1000000 in
theorem short_any {w : World} {a : Option Addr} {len cap : Nat} {os : List Op} (h : OpsAt w a len cap os) :
    Calls Try.prog 9 #[.slice a len cap] w (ShortPost os w) := by
  have hl := h.len_
  by_cases hc : (len : Int) ≤ 60
  · go_enter Try.func9, Try.ntmps9
    go_wp2
    go_loop [3] (fun i => ∃ k : Nat, k ≤ len ∧ i = .int .i64 k ∧ Hid (∀ (j : Nat) (hj : j < os.length), j < k → os[j].2.2.size ≤ 300 ∧ os[j].2.1 ≤ 100)) (fun i => len - (intOf i).toNat)
    case atStart => exact ⟨0, Nat.zero_le _, rfl, fun j _ h => absurd h (Nat.not_lt_zero _)⟩
    case round =>
      obtain ⟨k, hk, rfl, HK⟩ := hrel
      by_cases hlt : k < len
      · obtain ⟨b, off, kd, tm, s, rfl, hcell, he, -, htm⟩ := h.at k (by omega)
        have hct := hcell.txt
        have hcm := hcell.tms
        have HE := hide he
        clear he
        by_cases h3 : s.size ≤ 300
        · have h3i : (s.size : Int) ≤ 300 := by omega
          by_cases h4 : tm ≤ 100
          · have HS : Hid (∀ (j : Nat) (hj : j < os.length), j < k + 1 → os[j].2.2.size ≤ 300 ∧ os[j].2.1 ≤ 100) := by
              intro j hj hjk
              by_cases e : j = k
              · subst e
                rw [HE.out]
                exact ⟨h3, h4⟩
              · exact HK.out j hj (by omega)
            go_wp2
            go_round
            case rel => exact ⟨k + 1, by omega, by go_num, HS⟩
            case measure => simp [intOf]; omega
          · have h4i : 100 < tm := by omega
            have HN : Hid (¬ Short os) := fun hS => h4 (short_at hS (by omega) HE.out).2
            go_wp2
            go_ret
            exact ⟨false, rfl, ⟨fun h => (by cases h), fun h => absurd h HN.out⟩, rfl⟩
        · have h3i : (300 : Int) < (s.size : Int) := by omega
          have HN : Hid (¬ Short os) := fun hS => h3 (short_at hS (by omega) HE.out).1
          go_wp2
          go_ret
          exact ⟨false, rfl, ⟨fun h => (by cases h), fun h => absurd h HN.out⟩, rfl⟩
      · go_wp2
        go_ret
        refine ⟨true, rfl, ⟨fun _ => ⟨by omega, fun o ho => ?_⟩, fun _ => rfl⟩, rfl⟩
        obtain ⟨j, hj, rfl⟩ := List.mem_iff_getElem.1 ho
        exact HK.out j hj (by omega)
  · go_enter Try.func9, Try.ntmps9
    go_wp2
    go_ret
    exact ⟨false, rfl, ⟨fun h => (by cases h), fun h => absurd h.1 (by omega)⟩, rfl⟩
end Go.Proofs.Ytpjmhiokhoplmaa
