/- TinyOrders returns true for every input, and writes nothing that was there. Conditions: the contracts of package tiny. -/
import Derived.Test.YtpjmhiokhoplmaaTinyLib
import Derived.Deep.RegionWith
namespace Go.Proofs.Ytpjmhiokhoplmaa
open Go.RowKit
variable {Jd : World → Nat → List Nat → Nat → Js → Prop}

set_option maxHeartbeats 4000000 in
theorem tinyOrders_in (L : TinyLib Jd) (seed : Nat) (hd : seed < 18446744073709551616) {w : World} {a : Option Addr} {len cap : Nat} {os : List Op} (h : OpsAt w a len cap os) (p : ByteArray) (q : ByteArray) (r : ByteArray) (hS : Short os) (hp : p.size ≤ 300) (hq : q.size ≤ 300) (hr : r.size ≤ 300) :
    Calls Try.prog 4 #[.int .u64 seed, .slice a len cap, .string p, .string q, .string r] w fun e w' => e = .returned (.bool true) ∧ Below w.heap.size w w' := by
  have hl := h.len_
  have hlen : len ≤ 60 := by have := hS.1; omega
  have hpi : (p.size : Int) ≤ 300 := by omega
  have hqi : (q.size : Int) ≤ 300 := by omega
  have hri : (r.size : Int) ≤ 300 := by omega
  have HS := hide hS
  have hB : Below w.heap.size w w := Below.refl _ _
  clear hS
  go_enter Try.func4, Try.ntmps4
  go_wp2_with (first
    | (go_at_call 8; refine (awake_any L _).mono ?_; rintro e w1 ⟨rfl, hb⟩; replace hB := Bt hB hb; clear hb)
    | (go_at_call 9; refine (short_any (h.on hB)).mono ?_; rintro e w2 ⟨r, rfl, hr, rfl⟩; obtain rfl : r = true := hr.2 HS.out; clear hr)
    | (go_at_call 10; refine (L.new seed hd _).mono ?_; rintro e w3 ⟨b, bs, rfl, hb, hF, hg⟩; replace hb := (fun k hk => Nat.le_trans hB.size (hb k hk) : ∀ k ∈ bs, w.heap.size ≤ k); replace hB := gr_below hB hg (fun _ e => by cases e); clear hg))
  go_loopw [14] (fun i wr => ∃ (k : Nat) (j : Js), k ≤ len ∧ i = .int .i64 k ∧ Jd wr b bs seed j ∧ Below w.heap.size w wr) (fun i _ => len - (intOf i).toNat)
  case atStart => exact ⟨0, freshJ, Nat.zero_le _, rfl, hF, hB⟩
  case round =>
    clear hF hB
    obtain ⟨k, j, hk, rfl, hF, hB⟩ := hrel
    by_cases hlt : k < len
    · obtain ⟨c, off, kd, tm, s, rfl, hcell, he, -, htm⟩ := h.at k (by omega)
      have hsz := (short_at HS.out (show k < os.length by omega) he).1
      have ht1 := (short_at HS.out (show k < os.length by omega) he).2
      clear he
      go_wp2
      go_loopw [15] (fun i wr => ∃ (m : Nat) (j : Js), (m = 0 ∨ (m : Int) ≤ tm) ∧ i = .int .i64 m ∧ Jd wr b bs seed j ∧ Below w.heap.size w wr) (fun i _ => tm.toNat - (intOf i).toNat)
      case atStart => exact ⟨0, j, .inl rfl, rfl, hF, hB⟩
      case round =>
        clear hF hB
        obtain ⟨m, j, hm, rfl, hF, hB⟩ := hrel
        have hcq := hcell.on (Nat.le_refl _) hB
        have hct := hcq.txt
        have hcm := hcq.tms
        clear hcq
        by_cases hjt : (m : Int) < tm
        · go_wp2_with (go_at_call 13; refine (L.touch hF _ hsz).mono ?_; rintro e w1 ⟨⟨v, rfl⟩, hF2, hg⟩; replace hB := gr_belowL hB hg hb; clear hg hF hct hcm; have hF := hF2; clear hF2; have hcq := hcell.on (Nat.le_refl _) hB; have hct := hcq.txt; have hcm := hcq.tms; clear hcq)
          go_roundw
          case rel => exact ⟨m + 1, _, .inr (by omega), by go_num, hF, hB⟩
          case measure => simp [intOf]; omega
        · go_wp2
          go_roundw
          case rel => exact ⟨k + 1, _, by omega, by go_num, hF, hB⟩
          case measure => simp [intOf]; omega
    · have hw16 := worth_le seed j p.data.toList
      obtain ⟨A, hA⟩ : ∃ n, worthJ seed j p.data.toList = n := ⟨_, rfl⟩
      obtain ⟨B, hB'⟩ : ∃ n, worthJ seed j q.data.toList = n := ⟨_, rfl⟩
      obtain ⟨C, hC⟩ : ∃ n, worthJ seed j r.data.toList = n := ⟨_, rfl⟩
      rw [hA] at hw16
      have hA0 : (0 : Int) ≤ (A : Int) := by omega
      have hA16 : (A : Int) ≤ 16 := by omega
      have HA := hide hA
      have haa : Hid (decide (worthJ seed j p.data.toList < worthJ seed j p.data.toList) = false) := decide_eq_false (Nat.lt_irrefl _)
      obtain ⟨x, hx⟩ : ∃ x, decide (worthJ seed j q.data.toList < worthJ seed j p.data.toList) = x := ⟨_, rfl⟩
      obtain ⟨y, hy⟩ : ∃ y, decide (worthJ seed j p.data.toList < worthJ seed j q.data.toList) = y := ⟨_, rfl⟩
      obtain ⟨z, hz⟩ : ∃ z, decide (worthJ seed j r.data.toList < worthJ seed j q.data.toList) = z := ⟨_, rfl⟩
      obtain ⟨v, hv⟩ : ∃ v, decide (worthJ seed j r.data.toList < worthJ seed j p.data.toList) = v := ⟨_, rfl⟩
      have k1 : ¬ (x = true ∧ y = true) := by
        rintro ⟨rfl, rfl⟩
        have h1 := of_decide_eq_true hx
        have h2 := of_decide_eq_true hy
        omega
      have k2 : x = true → z = true → v = true := by
        rintro rfl rfl
        have h1 := of_decide_eq_true hx
        have h2 := of_decide_eq_true hz
        rw [← hv]
        exact decide_eq_true (by omega)
      have HX := hide hx
      have HY := hide hy
      have HZ := hide hz
      have HV := hide hv
      clear hx hy hz hv hA hB' hC hw16
      have cases3 : (x = false ∧ y = false) ∨ (x = false ∧ y = true) ∨ (x = true ∧ y = false ∧ z = false) ∨ (x = true ∧ y = false ∧ z = true ∧ v = true) := by
        cases x <;> cases y <;> cases z <;> cases v <;> simp_all
      clear k1 k2
      rcases cases3 with ⟨rfl, rfl⟩ | ⟨rfl, rfl⟩ | ⟨rfl, rfl, rfl⟩ | ⟨rfl, rfl, rfl, rfl⟩
      all_goals
        go_wp2_with (first
          | (have t := HX; clear t; go_at_call 17; refine (L.admits hF p q hp hq).mono ?_; rintro e w1 ⟨he, hF2, hg⟩; replace hB := gr_below hB hg (fun _ e => by cases e); clear hg hF; have hF := hF2; clear hF2; rw [HX.out] at he; clear HX; subst he)
          | (have t := HY; clear t; go_at_call 17; refine (L.admits hF q p hq hp).mono ?_; rintro e w1 ⟨he, hF2, hg⟩; replace hB := gr_below hB hg (fun _ e => by cases e); clear hg hF; have hF := hF2; clear hF2; rw [HY.out] at he; clear HY; subst he)
          | (have t := HZ; clear t; go_at_call 17; refine (L.admits hF q r hq hr).mono ?_; rintro e w1 ⟨he, hF2, hg⟩; replace hB := gr_below hB hg (fun _ e => by cases e); clear hg hF; have hF := hF2; clear hF2; rw [HZ.out] at he; clear HZ; subst he)
          | (have t := HA; clear t; go_at_call 15; refine (L.worth hF p hp).mono ?_; rintro e w1 ⟨he, hF2, hg⟩; replace hB := gr_below hB hg (fun _ e => by cases e); clear hg hF; have hF := hF2; clear hF2; rw [HA.out] at he; clear HA; subst he)
          | (have t := haa; clear t; go_at_call 17; refine (L.admits hF p p hp hp).mono ?_; rintro e w1 ⟨he, hF2, hg⟩; replace hB := gr_below hB hg (fun _ e => by cases e); clear hg hF; have hF := hF2; clear hF2; rw [haa.out] at he; clear haa; subst he)
          | (have t := HV; clear t; go_at_call 17; refine (L.admits hF p r hp hr).mono ?_; rintro e w1 ⟨he, hF2, hg⟩; replace hB := gr_below hB hg (fun _ e => by cases e); clear hg hF; have hF := hF2; clear hF2; rw [HV.out] at he; clear HV; subst he))
        go_ret
        exact ⟨by simp, hB⟩
set_option maxHeartbeats 2000000 in
theorem tinyOrders_out (L : TinyLib Jd) (seed : Nat) (hd : seed < 18446744073709551616) {w : World} {a : Option Addr} {len cap : Nat} {os : List Op} (h : OpsAt w a len cap os) (p : ByteArray) (q : ByteArray) (r : ByteArray) (hS : ¬ Short os) :
    Calls Try.prog 4 #[.int .u64 seed, .slice a len cap, .string p, .string q, .string r] w fun e w' => e = .returned (.bool true) ∧ Below w.heap.size w w' := by
  have HS := hide hS
  have hB : Below w.heap.size w w := Below.refl _ _
  clear hS
  go_enter Try.func4, Try.ntmps4
  go_wp2_with (first
    | (go_at_call 8; refine (awake_any L _).mono ?_; rintro e w1 ⟨rfl, hb⟩; replace hB := Bt hB hb; clear hb)
    | (go_at_call 9; refine (short_any (h.on hB)).mono ?_; rintro e w2 ⟨r, rfl, hr, rfl⟩; obtain rfl : r = false := Bool.eq_false_iff.2 (fun e => HS.out (hr.1 e)); clear hr)
    | (go_at_call 10; refine (L.new seed hd _).mono ?_; rintro e w3 ⟨b, bs, rfl, -, -, hg⟩; replace hB := gr_below hB hg (fun _ e => by cases e); clear hg))
  go_ret
  exact ⟨rfl, hB⟩
set_option maxHeartbeats 2000000 in
theorem tinyOrders_long0 (L : TinyLib Jd) (seed : Nat) (hd : seed < 18446744073709551616) {w : World} {a : Option Addr} {len cap : Nat} {os : List Op} (h : OpsAt w a len cap os) (p : ByteArray) (q : ByteArray) (r : ByteArray) (hS : Short os)  (hl : 300 < p.size) :
    Calls Try.prog 4 #[.int .u64 seed, .slice a len cap, .string p, .string q, .string r] w fun e w' => e = .returned (.bool true) ∧ Below w.heap.size w w' := by
  have HS := hide hS
  have hB : Below w.heap.size w w := Below.refl _ _
  have hli : (300 : Int) < (p.size : Int) := by omega
  clear hS hl
  go_enter Try.func4, Try.ntmps4
  go_wp2_with (first
    | (go_at_call 8; refine (awake_any L _).mono ?_; rintro e w1 ⟨rfl, hb⟩; replace hB := Bt hB hb; clear hb)
    | (go_at_call 9; refine (short_any (h.on hB)).mono ?_; rintro e w2 ⟨r, rfl, hr, rfl⟩; obtain rfl : r = true := hr.2 HS.out; clear hr)
    | (go_at_call 10; refine (L.new seed hd _).mono ?_; rintro e w3 ⟨b, bs, rfl, -, -, hg⟩; replace hB := gr_below hB hg (fun _ e => by cases e); clear hg))
  go_ret
  exact ⟨rfl, hB⟩
set_option maxHeartbeats 2000000 in
theorem tinyOrders_long1 (L : TinyLib Jd) (seed : Nat) (hd : seed < 18446744073709551616) {w : World} {a : Option Addr} {len cap : Nat} {os : List Op} (h : OpsAt w a len cap os) (p : ByteArray) (q : ByteArray) (r : ByteArray) (hS : Short os) (hp : p.size ≤ 300) (hl : 300 < q.size) :
    Calls Try.prog 4 #[.int .u64 seed, .slice a len cap, .string p, .string q, .string r] w fun e w' => e = .returned (.bool true) ∧ Below w.heap.size w w' := by
  have HS := hide hS
  have hB : Below w.heap.size w w := Below.refl _ _
  have hpi : (p.size : Int) ≤ 300 := by omega
  have hli : (300 : Int) < (q.size : Int) := by omega
  clear hS hl
  go_enter Try.func4, Try.ntmps4
  go_wp2_with (first
    | (go_at_call 8; refine (awake_any L _).mono ?_; rintro e w1 ⟨rfl, hb⟩; replace hB := Bt hB hb; clear hb)
    | (go_at_call 9; refine (short_any (h.on hB)).mono ?_; rintro e w2 ⟨r, rfl, hr, rfl⟩; obtain rfl : r = true := hr.2 HS.out; clear hr)
    | (go_at_call 10; refine (L.new seed hd _).mono ?_; rintro e w3 ⟨b, bs, rfl, -, -, hg⟩; replace hB := gr_below hB hg (fun _ e => by cases e); clear hg))
  go_ret
  exact ⟨rfl, hB⟩
set_option maxHeartbeats 2000000 in
theorem tinyOrders_long2 (L : TinyLib Jd) (seed : Nat) (hd : seed < 18446744073709551616) {w : World} {a : Option Addr} {len cap : Nat} {os : List Op} (h : OpsAt w a len cap os) (p : ByteArray) (q : ByteArray) (r : ByteArray) (hS : Short os) (hp : p.size ≤ 300) (hq : q.size ≤ 300) (hl : 300 < r.size) :
    Calls Try.prog 4 #[.int .u64 seed, .slice a len cap, .string p, .string q, .string r] w fun e w' => e = .returned (.bool true) ∧ Below w.heap.size w w' := by
  have HS := hide hS
  have hB : Below w.heap.size w w := Below.refl _ _
  have hpi : (p.size : Int) ≤ 300 := by omega
  have hqi : (q.size : Int) ≤ 300 := by omega
  have hli : (300 : Int) < (r.size : Int) := by omega
  clear hS hl
  go_enter Try.func4, Try.ntmps4
  go_wp2_with (first
    | (go_at_call 8; refine (awake_any L _).mono ?_; rintro e w1 ⟨rfl, hb⟩; replace hB := Bt hB hb; clear hb)
    | (go_at_call 9; refine (short_any (h.on hB)).mono ?_; rintro e w2 ⟨r, rfl, hr, rfl⟩; obtain rfl : r = true := hr.2 HS.out; clear hr)
    | (go_at_call 10; refine (L.new seed hd _).mono ?_; rintro e w3 ⟨b, bs, rfl, -, -, hg⟩; replace hB := gr_below hB hg (fun _ e => by cases e); clear hg))
  go_ret
  exact ⟨rfl, hB⟩
theorem tinyOrders_walk (L : TinyLib Jd) (W : World) (a0 : Int) (w0 : (Lit.int .u64 a0).wf = true) (a1 : Option Addr) (len1 cap1 : Nat) (z1 : List Op) (w1 : OpsAt W a1 len1 cap1 z1) (s2 : ByteArray) (_w2 : s2.size ≤ 140737488351232) (s3 : ByteArray) (_w3 : s3.size ≤ 140737488351232) (s4 : ByteArray) (_w4 : s4.size ≤ 140737488351232) :
    Calls Try.prog 4 #[.int .u64 a0, .slice a1 len1 cap1, .string s2, .string s3, .string s4] W fun e W' => e = .returned (.bool true) ∧ Below W.heap.size W W' := by
  obtain ⟨p0, p1⟩ := u64_wf w0
  obtain ⟨sd, rfl⟩ := Int.eq_ofNat_of_zero_le p0
  by_cases h : Short z1
  · by_cases h0 : s2.size ≤ 300
    · by_cases h1 : s3.size ≤ 300
      · by_cases h2 : s4.size ≤ 300
        · exact tinyOrders_in L sd (by omega) w1 s2 s3 s4 h h0 h1 h2
        · exact tinyOrders_long2 L sd (by omega) w1 s2 s3 s4 h h0 h1 (by omega)
      · exact tinyOrders_long1 L sd (by omega) w1 s2 s3 s4 h h0 (by omega)
    · exact tinyOrders_long0 L sd (by omega) w1 s2 s3 s4 h (by omega)
  · exact tinyOrders_out L sd (by omega) w1 s2 s3 s4 h
end Go.Proofs.Ytpjmhiokhoplmaa
