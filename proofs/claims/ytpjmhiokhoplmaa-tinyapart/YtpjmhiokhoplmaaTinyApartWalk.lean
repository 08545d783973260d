/- TinyApart returns true for every input, and writes nothing that was there. Conditions: the contracts of package tiny. -/
import Derived.Test.YtpjmhiokhoplmaaTinyLib
import Derived.Deep.RegionWith
namespace Go.Proofs.Ytpjmhiokhoplmaa
open Go.RowKit
variable {Jd : World → Nat → List Nat → Nat → Js → Prop}

set_option maxHeartbeats 4000000 in
theorem tinyApart_in (L : TinyLib Jd) (seed : Nat) (hd : seed < 18446744073709551616) {w : World} {a : Option Addr} {len cap : Nat} {os : List Op} (h : OpsAt w a len cap os) (x : ByteArray) (hS : Short os) (hx : x.size ≤ 300) :
    Calls Try.prog 7 #[.int .u64 seed, .slice a len cap, .string x] w fun e w' => e = .returned (.bool true) ∧ Below w.heap.size w w' := by
  have hl := h.len_
  have hlen : len ≤ 60 := by have := hS.1; omega
  have hxi : (x.size : Int) ≤ 300 := by omega
  have HS := hide hS
  have hB : Below w.heap.size w w := Below.refl _ _
  clear hS
  go_enter Try.func7, Try.ntmps7
  go_wp2_with (first
    | (go_at_call 8; refine (awake_any L _).mono ?_; rintro e w1 ⟨rfl, hb⟩; replace hB := Bt hB hb; clear hb)
    | (go_at_call 9; refine (short_any (h.on hB)).mono ?_; rintro e w2 ⟨r, rfl, hr, rfl⟩; obtain rfl : r = true := hr.2 HS.out; clear hr)
    | (go_at_call 10; refine (L.new seed hd _).mono ?_; rintro e w3 ⟨b, bs, rfl, hb, hF, hg⟩; replace hb := (fun k hk => Nat.le_trans hB.size (hb k hk) : ∀ k ∈ bs, w.heap.size ≤ k); replace hB := gr_below hB hg (fun _ e => by cases e); clear hg))
  go_loopw [10] (fun i wr => ∃ (k : Nat) (j : Js), k ≤ len ∧ i = .int .i64 k ∧ Jd wr b bs seed j ∧ Below w.heap.size w wr) (fun i _ => len - (intOf i).toNat)
  case atStart => exact ⟨0, freshJ, Nat.zero_le _, rfl, hF, hB⟩
  case round =>
    clear hF hB
    obtain ⟨k, j, hk, rfl, hF, hB⟩ := hrel
    by_cases hlt : k < len
    · obtain ⟨c, off, kd, tm, s, rfl, hcell, he, -, htm⟩ := h.at k (by omega)
      have hsz := (short_at HS.out (show k < os.length by omega) he).1
      have ht1 := (short_at HS.out (show k < os.length by omega) he).2
      clear he
      go_wp2
      go_loopw [11] (fun i wr => ∃ (m : Nat) (j : Js), (m = 0 ∨ (m : Int) ≤ tm) ∧ i = .int .i64 m ∧ Jd wr b bs seed j ∧ Below w.heap.size w wr) (fun i _ => tm.toNat - (intOf i).toNat)
      case atStart => exact ⟨0, j, .inl rfl, rfl, hF, hB⟩
      case round =>
        clear hF hB
        obtain ⟨m, j, hm, rfl, hF, hB⟩ := hrel
        have hcq := hcell.on (Nat.le_refl _) hB
        have hct := hcq.txt
        have hcm := hcq.tms
        clear hcq
        by_cases hjt : (m : Int) < tm
        · go_wp2_with (go_at_call 13; refine (L.touch hF _ hsz).mono ?_; rintro e w1 ⟨⟨v, rfl⟩, hF2, hg⟩; replace hB := gr_belowL hB hg hb; clear hg hF hct hcm; have hF := hF2; clear hF2; have hcq := hcell.on (Nat.le_refl _) hB; have hct := hcq.txt; have hcm := hcq.tms; clear hcq)
          go_roundw
          case rel => exact ⟨m + 1, _, .inr (by omega), by go_num, hF, hB⟩
          case measure => simp [intOf]; omega
        · go_wp2
          go_roundw
          case rel => exact ⟨k + 1, _, by omega, by go_num, hF, hB⟩
          case measure => simp [intOf]; omega
    · obtain ⟨n, hn⟩ : ∃ n, worthJ seed j x.data.toList = n := ⟨_, rfl⟩
      have HN := hide hn
      clear hn
      go_wp2_with (first
        | (go_at_call_of 15 (Value.pointer (some ⟨b2, 0, none⟩)); refine (L.worth hG _ hx).mono ?_; rintro e w1 ⟨he, hG2, hg⟩; replace hB := gr_below hB hg (fun _ e => by cases e); replace hF := L.kept hF hg; clear hg hG; have hG := hG2; clear hG2; rw [HN.out] at he; subst he)
        | (go_at_call_of 15 (Value.pointer (some ⟨b, 0, none⟩)); refine (L.worth hF _ hx).mono ?_; rintro e w1 ⟨he, hF2, hg⟩; replace hB := gr_below hB hg (fun _ e => by cases e); clear hg hF; have hF := hF2; clear hF2; rw [HN.out] at he; subst he)
        | (go_at_call 12; refine (L.copy hF).mono ?_; rintro e w1 ⟨b2, bs2, rfl, hb2, hG, hg⟩; have hap : ∀ k ∈ bs, ¬ k ∈ bs2 := (fun k hk h2 => by have h3 := L.lt hF k hk; have h4 := hb2 k h2; omega); replace hb2 := (fun k hk => Nat.le_trans hB.size (hb2 k hk) : ∀ k ∈ bs2, w.heap.size ≤ k); replace hB := gr_below hB hg (fun _ e => by cases e); replace hF := L.kept hF hg; clear hg))
      go_loopw [14] (fun i wr => ∃ (m : Nat) (j2 : Js), m ≤ 3 ∧ i = .int .i64 m ∧ Jd wr b2 bs2 seed j2 ∧ Jd wr b bs seed j ∧ Below w.heap.size w wr) (fun i _ => 3 - (intOf i).toNat)
      case atStart => exact ⟨0, j, by omega, rfl, hG, hF, hB⟩
      case round =>
        clear hG hF hB
        obtain ⟨m, j2, hm, rfl, hG, hF, hB⟩ := hrel
        by_cases hm3 : m < 3
        · have hmi : (m : Int) < 3 := by omega
          go_wp2_with (go_at_call 13; refine (L.touch hG _ hx).mono ?_; rintro e w1 ⟨⟨v, rfl⟩, hG2, hg⟩; replace hB := gr_belowL hB hg hb2; replace hF := L.apart hF hg hap; clear hg hG; have hG := hG2; clear hG2)
          go_roundw
          case rel => exact ⟨m + 1, _, by omega, by go_num, hG, hF, hB⟩
          case measure => simp [intOf]; omega
        · have hmi : (3 : Int) ≤ (m : Int) := by omega
          go_wp2_with (go_at_call 15; refine (L.worth hF _ hx).mono ?_; rintro e w1 ⟨he, hF2, hg⟩; replace hB := gr_below hB hg (fun _ e => by cases e); clear hg hF; have hF := hF2; clear hF2; rw [HN.out] at he; subst he)
          go_ret
          exact ⟨rfl, hB⟩
set_option maxHeartbeats 2000000 in
theorem tinyApart_out (L : TinyLib Jd) (seed : Nat) (hd : seed < 18446744073709551616) {w : World} {a : Option Addr} {len cap : Nat} {os : List Op} (h : OpsAt w a len cap os) (x : ByteArray) (hS : ¬ Short os) :
    Calls Try.prog 7 #[.int .u64 seed, .slice a len cap, .string x] w fun e w' => e = .returned (.bool true) ∧ Below w.heap.size w w' := by
  have HS := hide hS
  have hB : Below w.heap.size w w := Below.refl _ _
  clear hS
  go_enter Try.func7, Try.ntmps7
  go_wp2_with (first
    | (go_at_call 8; refine (awake_any L _).mono ?_; rintro e w1 ⟨rfl, hb⟩; replace hB := Bt hB hb; clear hb)
    | (go_at_call 9; refine (short_any (h.on hB)).mono ?_; rintro e w2 ⟨r, rfl, hr, rfl⟩; obtain rfl : r = false := Bool.eq_false_iff.2 (fun e => HS.out (hr.1 e)); clear hr)
    | (go_at_call 10; refine (L.new seed hd _).mono ?_; rintro e w3 ⟨b, bs, rfl, -, -, hg⟩; replace hB := gr_below hB hg (fun _ e => by cases e); clear hg))
  go_ret
  exact ⟨rfl, hB⟩
set_option maxHeartbeats 2000000 in
theorem tinyApart_long0 (L : TinyLib Jd) (seed : Nat) (hd : seed < 18446744073709551616) {w : World} {a : Option Addr} {len cap : Nat} {os : List Op} (h : OpsAt w a len cap os) (x : ByteArray) (hS : Short os)  (hl : 300 < x.size) :
    Calls Try.prog 7 #[.int .u64 seed, .slice a len cap, .string x] w fun e w' => e = .returned (.bool true) ∧ Below w.heap.size w w' := by
  have HS := hide hS
  have hB : Below w.heap.size w w := Below.refl _ _
  have hli : (300 : Int) < (x.size : Int) := by omega
  clear hS hl
  go_enter Try.func7, Try.ntmps7
  go_wp2_with (first
    | (go_at_call 8; refine (awake_any L _).mono ?_; rintro e w1 ⟨rfl, hb⟩; replace hB := Bt hB hb; clear hb)
    | (go_at_call 9; refine (short_any (h.on hB)).mono ?_; rintro e w2 ⟨r, rfl, hr, rfl⟩; obtain rfl : r = true := hr.2 HS.out; clear hr)
    | (go_at_call 10; refine (L.new seed hd _).mono ?_; rintro e w3 ⟨b, bs, rfl, -, -, hg⟩; replace hB := gr_below hB hg (fun _ e => by cases e); clear hg))
  go_ret
  exact ⟨rfl, hB⟩
theorem tinyApart_walk (L : TinyLib Jd) (W : World) (a0 : Int) (w0 : (Lit.int .u64 a0).wf = true) (a1 : Option Addr) (len1 cap1 : Nat) (z1 : List Op) (w1 : OpsAt W a1 len1 cap1 z1) (s2 : ByteArray) (_w2 : s2.size ≤ 140737488351232) :
    Calls Try.prog 7 #[.int .u64 a0, .slice a1 len1 cap1, .string s2] W fun e W' => e = .returned (.bool true) ∧ Below W.heap.size W W' := by
  obtain ⟨p0, p1⟩ := u64_wf w0
  obtain ⟨sd, rfl⟩ := Int.eq_ofNat_of_zero_le p0
  by_cases h : Short z1
  · by_cases h0 : s2.size ≤ 300
    · exact tinyApart_in L sd (by omega) w1 s2 h h0
    · exact tinyApart_long0 L sd (by omega) w1 s2 h (by omega)
  · exact tinyApart_out L sd (by omega) w1 s2 h
end Go.Proofs.Ytpjmhiokhoplmaa
