/- TinyCounts returns true for every input, and writes nothing that was there. Conditions: the contracts of package tiny. -/
import Derived.Test.YtpjmhiokhoplmaaTinyLib
import Derived.Deep.RegionWith
namespace Go.Proofs.Ytpjmhiokhoplmaa
open Go.RowKit
variable {Jd : World → Nat → List Nat → Nat → Js → Prop}

set_option maxRecDepth 100000 in
set_option maxHeartbeats 4000000 in
theorem tinyCounts_in (L : TinyLib Jd) (seed : Nat) (hd : seed < 18446744073709551616) (w : World) (x : ByteArray) (hx : x.size ≤ 300) (n : Int) (h0 : 0 ≤ n) (h3 : n ≤ 300) :
    Calls Try.prog 6 #[.int .u64 seed, .string x, .int .i64 n] w fun e w' => e = .returned (.bool true) ∧ Below w.heap.size w w' := by
  have hxi : (x.size : Int) ≤ 300 := by omega
  have hB : Below w.heap.size w w := Below.refl _ _
  have HZ := hide (worth_fresh seed x.data.toList)
  go_enter Try.func6, Try.ntmps6
  go_wp2_with (first
    | (go_at_call 8; refine (awake_any L _).mono ?_; rintro e w1 ⟨rfl, hb⟩; replace hB := Bt hB hb; clear hb)
    | (go_at_call 10; refine (L.new seed hd _).mono ?_; rintro e w3 ⟨b, bs, rfl, hb, hF, hg⟩; replace hb := (fun k hk => Nat.le_trans hB.size (hb k hk) : ∀ k ∈ bs, w.heap.size ≤ k); replace hB := gr_below hB hg (fun _ e => by cases e); clear hg)
    | (go_at_call 15; refine (L.worth hF _ hx).mono ?_; rintro e w1 ⟨he, hF2, hg⟩; replace hB := gr_below hB hg (fun _ e => by cases e); clear hg hF; have hF := hF2; clear hF2; rw [HZ.out] at he; subst he))
  go_loopw [10] (fun i wr => ∃ (k : Nat) (j : Js), (k : Int) ≤ n ∧ i = .int .i64 ((k : Int) + 1) ∧ Hid (AloneJ seed j x.data.toList k) ∧ Jd wr b bs seed j ∧ Below w.heap.size w wr) (fun i _ => n.toNat + 1 - (intOf i).toNat)
  case atStart => exact ⟨0, freshJ, by omega, rfl, .inl ⟨rfl, rfl⟩, hF, hB⟩
  case round =>
    clear hF hB HZ
    obtain ⟨k, j, hk, rfl, HA, hF, hB⟩ := hrel
    by_cases hlt : (k : Int) + 1 ≤ n
    · have HA2 := hide (aloneJ_step (L.good hF).1 HA.out (by omega))
      obtain ⟨m, hm⟩ : ∃ m, worthJ seed (touchJ seed j x.data.toList) x.data.toList = m := ⟨_, rfl⟩
      have hmv := aloneJ_worth HA2.out
      rw [hm] at hmv
      have HM := hide hm
      clear hm
      by_cases h16 : k + 1 ≤ 16
      · obtain rfl : m = k + 1 := by omega
        have h16i : (k : Int) + 1 ≤ 16 := by omega
        have ec : ((k + 1 : Nat) : Int) = (k : Int) + 1 := by omega
        clear hmv
        go_wp2_with (first
          | (go_at_call 13; refine (L.touch hF _ hx).mono ?_; rintro e w1 ⟨⟨v, rfl⟩, hF2, hg⟩; replace hB := gr_belowL hB hg hb; clear hg hF; have hF := hF2; clear hF2)
          | (go_at_call 15; refine (L.worth hF _ hx).mono ?_; rintro e w1 ⟨he, hF2, hg⟩; replace hB := gr_below hB hg (fun _ e => by cases e); clear hg hF; have hF := hF2; clear hF2; rw [HM.out, ec] at he; subst he))
        go_roundw
        case rel => exact ⟨k + 1, _, by omega, by go_num, HA2, hF, hB⟩
        case measure => simp [intOf]; omega
      · obtain rfl : m = 16 := by omega
        have h16i : (16 : Int) < (k : Int) + 1 := by omega
        clear hmv
        go_wp2_with (first
          | (go_at_call 13; refine (L.touch hF _ hx).mono ?_; rintro e w1 ⟨⟨v, rfl⟩, hF2, hg⟩; replace hB := gr_belowL hB hg hb; clear hg hF; have hF := hF2; clear hF2)
          | (go_at_call 15; refine (L.worth hF _ hx).mono ?_; rintro e w1 ⟨he, hF2, hg⟩; replace hB := gr_below hB hg (fun _ e => by cases e); clear hg hF; have hF := hF2; clear hF2; rw [HM.out] at he; subst he))
        go_roundw
        case rel => exact ⟨k + 1, _, by omega, by go_num, HA2, hF, hB⟩
        case measure => simp [intOf]; omega
    · go_wp2
      go_ret
      exact ⟨rfl, hB⟩
set_option maxHeartbeats 2000000 in
theorem tinyCounts_out (L : TinyLib Jd) (seed : Nat) (hd : seed < 18446744073709551616) (w : World) (x : ByteArray) (n : Int) (h : 300 < x.size ∨ n < 0 ∨ 300 < n) :
    Calls Try.prog 6 #[.int .u64 seed, .string x, .int .i64 n] w fun e w' => e = .returned (.bool true) ∧ Below w.heap.size w w' := by
  have hB : Below w.heap.size w w := Below.refl _ _
  have h' : (300 : Int) < (x.size : Int) ∨ ((x.size : Int) ≤ 300 ∧ n < 0) ∨ ((x.size : Int) ≤ 300 ∧ 0 ≤ n ∧ 300 < n) := by omega
  clear h
  rcases h' with h | ⟨h, g⟩ | ⟨h, g, k⟩
  all_goals
    go_enter Try.func6, Try.ntmps6
    go_wp2_with (first
      | (go_at_call 8; refine (awake_any L _).mono ?_; rintro e w1 ⟨rfl, hb⟩; replace hB := Bt hB hb; clear hb)
      | (go_at_call 10; refine (L.new seed hd _).mono ?_; rintro e w3 ⟨b, bs, rfl, -, -, hg⟩; replace hB := gr_below hB hg (fun _ e => by cases e); clear hg))
    go_ret
    exact ⟨rfl, hB⟩
theorem tinyCounts_walk (L : TinyLib Jd) (a0 : Int) (w0 : (Lit.int .u64 a0).wf = true) (x : ByteArray) (_w1 : x.size ≤ 140737488351232) (n : Int) (_w2 : (Lit.int .i64 n).wf = true) (W : World) :
    Calls Try.prog 6 #[.int .u64 a0, .string x, .int .i64 n] W fun e W' => e = .returned (.bool true) ∧ Below W.heap.size W W' := by
  obtain ⟨p0, p1⟩ := u64_wf w0
  obtain ⟨sd, rfl⟩ := Int.eq_ofNat_of_zero_le p0
  by_cases h : 300 < x.size ∨ n < 0 ∨ 300 < n
  · exact tinyCounts_out L sd (by omega) W x n h
  · exact tinyCounts_in L sd (by omega) W x (by omega) n (by omega) (by omega)
end Go.Proofs.Ytpjmhiokhoplmaa
