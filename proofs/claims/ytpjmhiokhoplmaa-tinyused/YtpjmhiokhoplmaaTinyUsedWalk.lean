/- TinyUsed returns true for every input, and writes nothing that was there. Conditions: the contracts of package tiny. -/
import Derived.Test.YtpjmhiokhoplmaaTinyLib
import Derived.Deep.RegionWith
namespace Go.Proofs.Ytpjmhiokhoplmaa
open Go.RowKit
variable {Jd : World → Nat → List Nat → Nat → Js → Prop}

set_option maxHeartbeats 4000000 in
theorem tinyUsed_in (L : TinyLib Jd) (seed : Nat) (hd : seed < 18446744073709551616) {w : World} {a : Option Addr} {len cap : Nat} {os : List Op} (h : OpsAt w a len cap os) (x : ByteArray) (hS : Short os) (hx : x.size ≤ 300) :
    Calls Try.prog 5 #[.int .u64 seed, .slice a len cap, .string x] w fun e w' => e = .returned (.bool true) ∧ Below w.heap.size w w' := by
  have hl := h.len_
  have hlen : len ≤ 60 := by have := hS.1; omega
  have hxi : (x.size : Int) ≤ 300 := by omega
  have HS := hide hS
  have hB : Below w.heap.size w w := Below.refl _ _
  clear hS
  go_enter Try.func5, Try.ntmps5
  go_wp2_with (first
    | (go_at_call 8; refine (awake_any L _).mono ?_; rintro e w1 ⟨rfl, hb⟩; replace hB := Bt hB hb; clear hb)
    | (go_at_call 9; refine (short_any (h.on hB)).mono ?_; rintro e w2 ⟨r, rfl, hr, rfl⟩; obtain rfl : r = true := hr.2 HS.out; clear hr)
    | (go_at_call 10; refine (L.new seed hd _).mono ?_; rintro e w3 ⟨b, bs, rfl, hb, hF, hg⟩; replace hb := (fun k hk => Nat.le_trans hB.size (hb k hk) : ∀ k ∈ bs, w.heap.size ≤ k); replace hB := gr_below hB hg (fun _ e => by cases e); clear hg))
  go_loopw [10] (fun i wr => ∃ (k : Nat) (j : Js), k ≤ len ∧ i = .int .i64 k ∧ Jd wr b bs seed j ∧ Below w.heap.size w wr) (fun i _ => len - (intOf i).toNat)
  case atStart => exact ⟨0, freshJ, Nat.zero_le _, rfl, hF, hB⟩
  case round =>
    clear hF hB
    obtain ⟨k, j, hk, rfl, hF, hB⟩ := hrel
    by_cases hlt : k < len
    · obtain ⟨c, off, kd, tm, s, rfl, hcell, he, -, htm⟩ := h.at k (by omega)
      have hsz := (short_at HS.out (show k < os.length by omega) he).1
      have ht1 := (short_at HS.out (show k < os.length by omega) he).2
      clear he
      go_wp2
      go_loopw [11] (fun i wr => ∃ (m : Nat) (j : Js), (m = 0 ∨ (m : Int) ≤ tm) ∧ i = .int .i64 m ∧ Jd wr b bs seed j ∧ Below w.heap.size w wr) (fun i _ => tm.toNat - (intOf i).toNat)
      case atStart => exact ⟨0, j, .inl rfl, rfl, hF, hB⟩
      case round =>
        clear hF hB
        obtain ⟨m, j, hm, rfl, hF, hB⟩ := hrel
        have hcq := hcell.on (Nat.le_refl _) hB
        have hct := hcq.txt
        have hcm := hcq.tms
        clear hcq
        by_cases hjt : (m : Int) < tm
        · go_wp2_with (go_at_call 13; refine (L.touch hF _ hsz).mono ?_; rintro e w1 ⟨⟨v, rfl⟩, hF2, hg⟩; replace hB := gr_belowL hB hg hb; clear hg hF hct hcm; have hF := hF2; clear hF2; have hcq := hcell.on (Nat.le_refl _) hB; have hct := hcq.txt; have hcm := hcq.tms; clear hcq)
          go_roundw
          case rel => exact ⟨m + 1, _, .inr (by omega), by go_num, hF, hB⟩
          case measure => simp [intOf]; omega
        · go_wp2
          go_roundw
          case rel => exact ⟨k + 1, _, by omega, by go_num, hF, hB⟩
          case measure => simp [intOf]; omega
    · have hgood := (L.good hF).1
      obtain ⟨oth, ho⟩ : ∃ o : ByteArray, o = ⟨#[111, 116, 104, 101, 114]⟩ := ⟨_, rfl⟩
      have hos : oth.size ≤ 300 := by rw [ho]; decide
      obtain ⟨was, hwas⟩ : ∃ n, worthJ seed j x.data.toList = n := ⟨_, rfl⟩
      obtain ⟨oto, hoto⟩ : ∃ n, worthJ seed j oth.data.toList = n := ⟨_, rfl⟩
      obtain ⟨now, hnow⟩ : ∃ n, worthJ seed (touchJ seed j x.data.toList) x.data.toList = n := ⟨_, rfl⟩
      obtain ⟨otn, hotn⟩ : ∃ n, worthJ seed (touchJ seed j x.data.toList) oth.data.toList = n := ⟨_, rfl⟩
      have key : ((was : Int) ≤ (now : Int) ∧ (1 : Int) ≤ (now : Int)) ∨ ((now : Int) < (was : Int) ∧ (now : Int) ≤ 8 ∧ (otn : Int) ≤ (oto : Int)) ∨ ((was : Int) ≤ (now : Int) ∧ (now : Int) < 1 ∧ (now : Int) ≤ 8 ∧ (otn : Int) ≤ (oto : Int)) := by
        cases hh : (hadJ seed j x.data.toList && halved j.2) with
        | false =>
          have := used_more hgood seed x.data.toList hh
          rw [hwas, hnow] at this
          omega
        | true =>
          have h1 := used_less hgood seed x.data.toList oth.data.toList hh
          rw [hnow, hotn, hoto] at h1
          omega
      have H1 := hide hwas
      have H2 := hide hoto
      have H3 := hide hnow
      have H4 := hide hotn
      rw [ho] at H2 H4 hos
      clear ho hwas hoto hnow hotn hgood
      rcases key with ⟨k1, k2⟩ | ⟨k1, k2, k3⟩ | ⟨k1, k0, k2, k3⟩
      all_goals
        go_wp2_with (first
          | (have t := H1; clear t; go_at_call 15; refine (L.worth hF x hx).mono ?_; rintro e w1 ⟨he, hF2, hg⟩; replace hB := gr_below hB hg (fun _ e => by cases e); clear hg hF; have hF := hF2; clear hF2; rw [H1.out] at he; clear H1; subst he)
          | (have t := H2; clear t; go_at_call 15; refine (L.worth hF _ hos).mono ?_; rintro e w1 ⟨he, hF2, hg⟩; replace hB := gr_below hB hg (fun _ e => by cases e); clear hg hF; have hF := hF2; clear hF2; rw [H2.out] at he; clear H2; subst he)
          | (go_at_call 13; refine (L.touch hF _ hx).mono ?_; rintro e w1 ⟨⟨v, rfl⟩, hF2, hg⟩; replace hB := gr_belowL hB hg hb; clear hg hF; have hF := hF2; clear hF2)
          | (have t := H3; clear t; go_at_call 15; refine (L.worth hF x hx).mono ?_; rintro e w1 ⟨he, hF2, hg⟩; replace hB := gr_below hB hg (fun _ e => by cases e); clear hg hF; have hF := hF2; clear hF2; rw [H3.out] at he; clear H3; subst he)
          | (have t := H4; clear t; go_at_call 15; refine (L.worth hF _ hos).mono ?_; rintro e w1 ⟨he, hF2, hg⟩; replace hB := gr_below hB hg (fun _ e => by cases e); clear hg hF; have hF := hF2; clear hF2; rw [H4.out] at he; clear H4; subst he))
        go_ret
        exact ⟨rfl, hB⟩
set_option maxHeartbeats 2000000 in
theorem tinyUsed_out (L : TinyLib Jd) (seed : Nat) (hd : seed < 18446744073709551616) {w : World} {a : Option Addr} {len cap : Nat} {os : List Op} (h : OpsAt w a len cap os) (x : ByteArray) (hS : ¬ Short os) :
    Calls Try.prog 5 #[.int .u64 seed, .slice a len cap, .string x] w fun e w' => e = .returned (.bool true) ∧ Below w.heap.size w w' := by
  have HS := hide hS
  have hB : Below w.heap.size w w := Below.refl _ _
  clear hS
  go_enter Try.func5, Try.ntmps5
  go_wp2_with (first
    | (go_at_call 8; refine (awake_any L _).mono ?_; rintro e w1 ⟨rfl, hb⟩; replace hB := Bt hB hb; clear hb)
    | (go_at_call 9; refine (short_any (h.on hB)).mono ?_; rintro e w2 ⟨r, rfl, hr, rfl⟩; obtain rfl : r = false := Bool.eq_false_iff.2 (fun e => HS.out (hr.1 e)); clear hr)
    | (go_at_call 10; refine (L.new seed hd _).mono ?_; rintro e w3 ⟨b, bs, rfl, -, -, hg⟩; replace hB := gr_below hB hg (fun _ e => by cases e); clear hg))
  go_ret
  exact ⟨rfl, hB⟩
set_option maxHeartbeats 2000000 in
theorem tinyUsed_long0 (L : TinyLib Jd) (seed : Nat) (hd : seed < 18446744073709551616) {w : World} {a : Option Addr} {len cap : Nat} {os : List Op} (h : OpsAt w a len cap os) (x : ByteArray) (hS : Short os)  (hl : 300 < x.size) :
    Calls Try.prog 5 #[.int .u64 seed, .slice a len cap, .string x] w fun e w' => e = .returned (.bool true) ∧ Below w.heap.size w w' := by
  have HS := hide hS
  have hB : Below w.heap.size w w := Below.refl _ _
  have hli : (300 : Int) < (x.size : Int) := by omega
  clear hS hl
  go_enter Try.func5, Try.ntmps5
  go_wp2_with (first
    | (go_at_call 8; refine (awake_any L _).mono ?_; rintro e w1 ⟨rfl, hb⟩; replace hB := Bt hB hb; clear hb)
    | (go_at_call 9; refine (short_any (h.on hB)).mono ?_; rintro e w2 ⟨r, rfl, hr, rfl⟩; obtain rfl : r = true := hr.2 HS.out; clear hr)
    | (go_at_call 10; refine (L.new seed hd _).mono ?_; rintro e w3 ⟨b, bs, rfl, -, -, hg⟩; replace hB := gr_below hB hg (fun _ e => by cases e); clear hg))
  go_ret
  exact ⟨rfl, hB⟩
theorem tinyUsed_walk (L : TinyLib Jd) (W : World) (a0 : Int) (w0 : (Lit.int .u64 a0).wf = true) (a1 : Option Addr) (len1 cap1 : Nat) (z1 : List Op) (w1 : OpsAt W a1 len1 cap1 z1) (s2 : ByteArray) (_w2 : s2.size ≤ 140737488351232) :
    Calls Try.prog 5 #[.int .u64 a0, .slice a1 len1 cap1, .string s2] W fun e W' => e = .returned (.bool true) ∧ Below W.heap.size W W' := by
  obtain ⟨p0, p1⟩ := u64_wf w0
  obtain ⟨sd, rfl⟩ := Int.eq_ofNat_of_zero_le p0
  by_cases h : Short z1
  · by_cases h0 : s2.size ≤ 300
    · exact tinyUsed_in L sd (by omega) w1 s2 h h0
    · exact tinyUsed_long0 L sd (by omega) w1 s2 h (by omega)
  · exact tinyUsed_out L sd (by omega) w1 s2 h
end Go.Proofs.Ytpjmhiokhoplmaa
