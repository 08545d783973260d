/- What the document's own filter answers: its places stand in a slice, in the order in which they were set. Conditions: texts take at most 140737488351232 bytes. -/
import Derived.Test.YtpjmhiokhoplmaaBloomCon
import Derived.Test.YtpjmhiokhoplmaaHashRef
import Derived.Laws.OwnMore
namespace Go.Proofs.Ytpjmhiokhoplmaa
open Go.RowKit

/-- Places as cells. -/
def refPlV (S : List Nat) : List Value := S.map fun p : Nat => .int .i64 (p : Int)
theorem plV_len (S : List Nat) : (refPlV S).length = S.length := by unfold refPlV; rw [List.length_map]
/-- The document's filter at block c: its seed, and the slice v of its places. -/
def RFil (n0 : Nat) (w : World) (c sd : Nat) (S : List Nat) (v : Value) : Prop :=
  w.heap[c]? = some (.cells #[.int .u64 sd, v] 48 (0, 0)) ∧ w.ownsRow n0 3 1 v S.length (refPlV S)
theorem RFil.seed {n0 c sd : Nat} {w : World} {S : List Nat} {v : Value} (h : RFil n0 w c sd S v) : w.cell? ⟨c, 0, none⟩ = some (.int .u64 sd) := by simp [World.cell?, h.1]
theorem RFil.set {n0 c sd : Nat} {w : World} {S : List Nat} {v : Value} (h : RFil n0 w c sd S v) : w.cell? ⟨c, 1, none⟩ = some v := by simp [World.cell?, h.1]
theorem RFil.free {n0 c sd : Nat} {w : World} {S : List Nat} {v : Value} (h : RFil n0 w c sd S v) : w.frozen? ⟨c, 1, none⟩ = false := by simp [World.frozen?, h.1]
theorem RFil.lt {n0 c sd : Nat} {w : World} {S : List Nat} {v : Value} (h : RFil n0 w c sd S v) : c < w.heap.size := (Array.getElem?_eq_some_iff.1 h.1).1
theorem own_slice {w : World} {n0 : Nat} {S : List Nat} {v : Value} (h : w.ownsRow n0 3 1 v S.length (refPlV S)) :
    ∃ a cap, v = .slice a S.length cap ∧ ∀ j (hj : j < S.length), ∃ g, a = some ⟨g, 0, none⟩ ∧ w.cell? ⟨g, j, none⟩ = some (.int .i64 S[j]) := by
  rcases h.2 with ⟨hv, h0⟩ | ⟨g, cap, cur, hv, hr⟩
  · refine ⟨none, 0, by rw [hv, h0], fun j hj => ?_⟩
    omega
  · refine ⟨some ⟨g, 0, none⟩, cap, hv, fun j hj => ⟨g, rfl, ?_⟩⟩
    rw [hv] at h
    rw [h.cellAt j (by omega)]
    unfold refPlV
    rw [List.getElem?_map, List.getElem?_eq_getElem hj]
    rfl

set_option maxHeartbeats 1000000 in
theorem place_any (sd : Nat) (s : ByteArray) (hs : s.size ≤ 140737488351232) (k : Nat) (hk : k < 3) (w : World) :
    Calls Try.prog 39 #[.int .u64 sd, .string s, .int .i64 k] w fun e w' => e = .returned (.int .i64 (placeN sd s.data.toList k)) ∧ w = w' := by
  obtain ⟨z, hz⟩ : ∃ z : Nat, z = (sd + k) % 18446744073709551616 := ⟨_, rfl⟩
  have hzl : z < 18446744073709551616 := by omega
  have HW : Hid (IntKind.u64.wrap ((sd : Int) + (k : Int)) = (z : Int)) := by
    rw [hz, IntKind.wrap_u64]
    show ((sd : Int) + (k : Int)) % 18446744073709551616 = _
    omega
  have HP : Hid (belowN (ofN z s.data.toList) 512 = ((placeN sd s.data.toList k : Nat) : Int)) := by
    unfold belowN placeN
    rw [hz, if_neg (by decide)]
    show _ = _
    omega
  have ho := of_lt z s.data.toList
  clear hz
  go_enter Try.func39, Try.ntmps39
  go_wp2_with (first
    | (go_at_call 47; rw [HW.out]; refine (rof_any z hzl s hs _).mono ?_; rintro e w1 ⟨rfl, rfl⟩)
    | (go_at_call 46; refine (rbelow_any _ ho 512 (by decide) (by decide) _).mono ?_; rintro e w1 ⟨he, rfl⟩; rw [HP.out] at he; subst he))
  go_ret
  exact ⟨rfl, rfl⟩
set_option maxHeartbeats 1000000 in
theorem is_any {n0 c sd : Nat} {w : World} {S : List Nat} {v : Value} (h : RFil n0 w c sd S v) (hl : S.length ≤ 100000) (p : Nat) :
    Calls Try.prog 40 #[.pointer (some ⟨c, 0, none⟩), .int .i64 p] w fun e w' => e = .returned (.bool (decide (p ∈ S))) ∧ w = w' := by
  have hset := h.set
  obtain ⟨a, cap, rfl, hcell⟩ := own_slice h.2
  obtain ⟨n, hn⟩ : ∃ n, S.length = n := ⟨_, rfl⟩
  have HN := hide hn
  have HC := hide hcell
  rw [hn] at hset hl
  clear h hcell hn
  go_enter Try.func40, Try.ntmps40
  go_wp2
  go_loop [5] (fun i => ∃ k : Nat, k ≤ n ∧ i = .int .i64 k ∧ Hid (∀ j (hj : j < S.length), j < k → S[j] ≠ p)) (fun i => n - (intOf i).toNat)
  case atStart => exact ⟨0, Nat.zero_le _, rfl, fun j _ h => absurd h (Nat.not_lt_zero _)⟩
  case round =>
    obtain ⟨k, hk, rfl, HK⟩ := hrel
    by_cases hlt : k < n
    · have hkS : k < S.length := by rw [HN.out]; exact hlt
      obtain ⟨g, rfl, hc⟩ := HC.out k hkS
      obtain ⟨q, hq⟩ : ∃ q : Nat, q = S[k] := ⟨_, rfl⟩
      rw [← hq] at hc
      by_cases he : q = p
      · have HR : Hid (decide (p ∈ S) = true) := decide_eq_true (by rw [← he, hq]; exact List.getElem_mem _)
        subst he
        clear hq
        go_wp2
        go_ret
        exact ⟨by rw [HR.out]; rfl, rfl⟩
      · have hne : ((q : Int) == (p : Int)) = false := beq_eq_false_iff_ne.2 (by omega)
        have HS : Hid (∀ j (hj : j < S.length), j < k + 1 → S[j] ≠ p) := by
          intro j hj hjk
          by_cases e : j = k
          · subst e; rw [← hq]; exact he
          · exact HK.out j hj (by omega)
        clear hq
        go_wp2
        go_round
        case rel => exact ⟨k + 1, by omega, by go_num, HS⟩
        case measure => simp [intOf]; omega
    · have HR : Hid (decide (p ∈ S) = false) := decide_eq_false fun hm => by
        obtain ⟨j, hj, e⟩ := List.mem_iff_getElem.1 hm
        exact HK.out j hj (by have := HN.out; omega) e
      go_wp2
      go_ret
      exact ⟨by rw [HR.out]; rfl, rfl⟩
set_option maxHeartbeats 1000000 in
theorem rhas_any {n0 c sd : Nat} {w : World} {S : List Nat} {v : Value} (h : RFil n0 w c sd S v) (hl : S.length ≤ 100000) (s : ByteArray) (hs : s.size ≤ 140737488351232) :
    Calls Try.prog 32 #[.pointer (some ⟨c, 0, none⟩), .string s] w fun e w' => e = .returned (.bool (hasS S (pls sd s.data.toList))) ∧ w = w' := by
  have hseed := h.seed
  have HI := hide (fun p => is_any h hl p)
  go_enter Try.func32, Try.ntmps32
  go_wp2
  go_loop [5] (fun i => ∃ k : Nat, k ≤ 3 ∧ i = .int .i64 k ∧ Hid (hasS S (pls sd s.data.toList) = hasS S ((pls sd s.data.toList).drop k))) (fun i => 3 - (intOf i).toNat)
  case atStart => exact ⟨0, Nat.zero_le _, rfl, rfl⟩
  case round =>
    obtain ⟨k, hk, rfl, HK⟩ := hrel
    by_cases hlt : k < 3
    · have HD : Hid ((pls sd s.data.toList).drop k = placeN sd s.data.toList k :: (pls sd s.data.toList).drop (k + 1)) := by
        have : k = 0 ∨ k = 1 ∨ k = 2 := by omega
        rcases this with rfl | rfl | rfl <;> rfl
      obtain ⟨p, hp⟩ : ∃ p, placeN sd s.data.toList k = p := ⟨_, rfl⟩
      have HP := hide hp
      by_cases hm : p ∈ S
      · have HS : Hid (hasS S (pls sd s.data.toList) = hasS S ((pls sd s.data.toList).drop (k + 1))) := by
          show _ = _
          rw [HK.out, HD.out, HP.out]
          unfold hasS
          rw [List.all_cons, decide_eq_true hm, Bool.true_and]
        have HM := hide (decide_eq_true hm)
        clear hp hm
        go_wp2_with (first
          | (go_at_call 39; refine (place_any sd s hs k hlt _).mono ?_; rintro e w1 ⟨he, rfl⟩; rw [HP.out] at he; subst he)
          | (go_at_call 40; refine (HI.out p).mono ?_; rintro e w1 ⟨he, rfl⟩; rw [HM.out] at he; subst he))
        go_round
        case rel => exact ⟨k + 1, by omega, by go_num, HS⟩
        case measure => simp [intOf]; omega
      · have HS : Hid (hasS S (pls sd s.data.toList) = false) := by
          show _ = _
          rw [HK.out, HD.out, HP.out]
          unfold hasS
          rw [List.all_cons, decide_eq_false hm, Bool.false_and]
        have HM := hide (decide_eq_false hm)
        clear hp hm
        go_wp2_with (first
          | (go_at_call 39; refine (place_any sd s hs k hlt _).mono ?_; rintro e w1 ⟨he, rfl⟩; rw [HP.out] at he; subst he)
          | (go_at_call 40; refine (HI.out p).mono ?_; rintro e w1 ⟨he, rfl⟩; rw [HM.out] at he; subst he))
        go_ret
        exact ⟨by rw [HS.out]; rfl, rfl⟩
    · obtain rfl : k = 3 := by omega
      go_wp2
      go_ret
      exact ⟨by rw [HK.out]; rfl, rfl⟩
end Go.Proofs.Ytpjmhiokhoplmaa
