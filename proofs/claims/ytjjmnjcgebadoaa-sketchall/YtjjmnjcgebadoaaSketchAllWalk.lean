/- SketchAll returns true for every seed, all calls and one more text, and writes nothing that was there. Conditions: the contracts of package sketch. -/
import Derived.Test.YtjjmnjcgebadoaaSketchLib
import Derived.Deep.RegionWith
namespace Go.Proofs.Ytjjmnjcgebadoaa
open Go.RowKit
variable {Sk : World → Nat → Nat → St → Prop}

set_option maxHeartbeats 4000000 in
theorem sketchAll_in (L : SketchLib Sk) (seed : Nat) (hd : seed < 18446744073709551616) {w : World} {a : Option Addr} {len cap : Nat} {os : List Op} (h : OpsAt w a len cap os) (x : ByteArray) (hS : Short os) (hx : x.size ≤ 300) :
    Calls Try.prog 6 #[.int .u64 seed, .slice a len cap, .string x] w fun e w' => e = .returned (.bool true) ∧ Below w.heap.size w w' := by
  have hl := h.len_
  have hlen : len ≤ 60 := by have := hS.1; omega
  have hxi : (x.size : Int) ≤ 300 := by omega
  have HS := hide hS
  have hB : Below w.heap.size w w := Below.refl _ _
  clear hS
  go_enter Try.func6, Try.ntmps6
  have HZ := hide (cnt_fresh seed x.data.toList)
  go_wp2_with (first
    | (go_at_call 8; refine (awake_any L _).mono ?_; rintro e w1 ⟨rfl, hb⟩; replace hB := Bt hB hb; clear hb)
    | (go_at_call 9; refine (short_any (h.on hB)).mono ?_; rintro e w2 ⟨r, rfl, hr, rfl⟩; obtain rfl : r = true := hr.2 HS.out; clear hr)
    | (go_at_call 10; refine (L.new seed hd _).mono ?_; rintro e w3 ⟨b, rfl, hb, hF, hg⟩; replace hb := Nat.le_trans hB.size hb; replace hB := gr_below hB hg (fun _ e => by cases e); clear hg)
    | (go_at_call 16; refine (L.count hF _ hx).mono ?_; rintro e w1 ⟨he, hF2, hg⟩; replace hB := gr_below hB hg (fun _ e => by cases e); clear hg hF; have hF := hF2; clear hF2; rw [HZ.out] at he; subst he))
  clear HZ
  go_loopw [11, 12] (fun q i wr => ∃ (k n : Nat) (st : St), k ≤ len ∧ i = .int .i64 k ∧ n < 640 ∧ q = .int .i64 n ∧ Hid (Most st n) ∧ Sk wr b seed st ∧ Below w.heap.size w wr) (fun _ i _ => len - (intOf i).toNat)
  case atStart => exact ⟨0, 0, fresh, Nat.zero_le _, rfl, by decide, rfl, most_fresh, hF, hB⟩
  case round =>
    clear hF hB
    obtain ⟨k, n, st, hk, rfl, hn, rfl, HM, hF, hB⟩ := hrel
    by_cases hlt : k < len
    · obtain ⟨c, off, kd, tm, s, rfl, hcell, he, -, htm⟩ := h.at k (by omega)
      have hsz := (short_at HS.out (show k < os.length by omega) he).1
      have ht1 := (short_at HS.out (show k < os.length by omega) he).2
      clear he
      go_wp2
      go_loopw [11, 13] (fun q i wr => ∃ (j n : Nat) (st : St), (j = 0 ∨ (j : Int) ≤ tm) ∧ i = .int .i64 j ∧ n < 640 ∧ q = .int .i64 n ∧ Hid (Most st n) ∧ Sk wr b seed st ∧ Below w.heap.size w wr) (fun _ i _ => tm.toNat - (intOf i).toNat)
      case atStart => exact ⟨0, n, st, .inl rfl, rfl, hn, rfl, HM, hF, hB⟩
      case round =>
        clear hF hB HM hn
        obtain ⟨j, n, st, hj, rfl, hn, rfl, HM, hF, hB⟩ := hrel
        have hcq := hcell.on (Nat.le_refl _) hB
        have hct := hcq.txt
        have hcm := hcq.tms
        clear hcq
        by_cases hjt : (j : Int) < tm
        · have hgood := (L.good hF).1
          cases hh : halved st with
          | true =>
            have HH := hide hh
            clear hh
            go_wp2_with (go_at_call 13; refine (L.add hF _ hsz).mono ?_; rintro e w1 ⟨he, hF2, hg⟩; replace hB := gr_below hB hg (fun n e => by cases e; exact hb); clear hg hF hct hcm; have hF := hF2; clear hF2; have hcq := hcell.on (Nat.le_refl _) hB; have hct := hcq.txt; have hcm := hcq.tms; clear hcq; rw [HH.out] at he; subst he)
            go_ret
            exact ⟨rfl, hB⟩
          | false =>
            have HH := hide hh
            have HM2 := hide (most_step hgood seed s.data.toList n hh HM.out)
            have hn2 : n + 1 < 640 := by
              have h1 := HM.out.1
              simp only [halved, decide_eq_false_iff_not] at hh
              omega
            clear hh
            go_wp2_with (go_at_call 13; refine (L.add hF _ hsz).mono ?_; rintro e w1 ⟨he, hF2, hg⟩; replace hB := gr_below hB hg (fun n e => by cases e; exact hb); clear hg hF hct hcm; have hF := hF2; clear hF2; have hcq := hcell.on (Nat.le_refl _) hB; have hct := hcq.txt; have hcm := hcq.tms; clear hcq; rw [HH.out] at he; subst he)
            go_roundw
            case rel => exact ⟨j + 1, n + 1, _, .inr (by omega), by go_num, hn2, by go_num, HM2, hF, hB⟩
            case measure => simp [intOf]; omega
        · go_wp2
          go_roundw
          case rel => exact ⟨k + 1, n, _, by omega, by go_num, hn, rfl, HM, hF, hB⟩
          case measure => simp [intOf]; omega
    · obtain ⟨q, hq⟩ : ∃ q, cnt st.1 (plcs seed x.data.toList) = q := ⟨_, rfl⟩
      have hq1 := most_cnt HM.out seed x.data.toList
      have hq2 := cnt_le st.1 (plcs seed x.data.toList)
      rw [hq] at hq1 hq2
      have hq1i : (q : Int) ≤ (n : Int) := by omega
      have hq2i : (q : Int) ≤ 15 := by omega
      have HQ := hide hq
      clear hq hq1 hq2
      go_wp2_with (first
        | (go_at_call 16; refine (L.count hF _ hx).mono ?_; rintro e w1 ⟨he, hF2, hg⟩; replace hB := gr_below hB hg (fun _ e => by cases e); clear hg hF; have hF := hF2; clear hF2; rw [HQ.out] at he; subst he)
        | (go_at_call 15; refine (L.age hF).mono ?_; rintro e w1 ⟨he, hF2, hg⟩; replace hB := gr_below hB hg (fun _ e => by cases e); clear hg hF; have hF := hF2; clear hF2; rw [HM.out.1] at he; subst he))
      go_ret
      exact ⟨rfl, hB⟩
set_option maxHeartbeats 2000000 in
theorem sketchAll_out (L : SketchLib Sk) (seed : Nat) (hd : seed < 18446744073709551616) {w : World} {a : Option Addr} {len cap : Nat} {os : List Op} (h : OpsAt w a len cap os) (x : ByteArray) (hS : ¬ Short os) :
    Calls Try.prog 6 #[.int .u64 seed, .slice a len cap, .string x] w fun e w' => e = .returned (.bool true) ∧ Below w.heap.size w w' := by
  have HS := hide hS
  have hB : Below w.heap.size w w := Below.refl _ _
  clear hS
  go_enter Try.func6, Try.ntmps6
  go_wp2_with (first
    | (go_at_call 8; refine (awake_any L _).mono ?_; rintro e w1 ⟨rfl, hb⟩; replace hB := Bt hB hb; clear hb)
    | (go_at_call 9; refine (short_any (h.on hB)).mono ?_; rintro e w2 ⟨r, rfl, hr, rfl⟩; obtain rfl : r = false := Bool.eq_false_iff.2 (fun e => HS.out (hr.1 e)); clear hr)
    | (go_at_call 10; refine (L.new seed hd _).mono ?_; rintro e w3 ⟨b, rfl, -, -, hg⟩; replace hB := gr_below hB hg (fun _ e => by cases e); clear hg))
  go_ret
  exact ⟨rfl, hB⟩
set_option maxHeartbeats 2000000 in
theorem sketchAll_long (L : SketchLib Sk) (seed : Nat) (hd : seed < 18446744073709551616) {w : World} {a : Option Addr} {len cap : Nat} {os : List Op} (h : OpsAt w a len cap os) (x : ByteArray) (hS : Short os) (hx : 300 < x.size) :
    Calls Try.prog 6 #[.int .u64 seed, .slice a len cap, .string x] w fun e w' => e = .returned (.bool true) ∧ Below w.heap.size w w' := by
  have HS := hide hS
  have hB : Below w.heap.size w w := Below.refl _ _
  have hxi : (300 : Int) < (x.size : Int) := by omega
  clear hS hx
  go_enter Try.func6, Try.ntmps6
  go_wp2_with (first
    | (go_at_call 8; refine (awake_any L _).mono ?_; rintro e w1 ⟨rfl, hb⟩; replace hB := Bt hB hb; clear hb)
    | (go_at_call 9; refine (short_any (h.on hB)).mono ?_; rintro e w2 ⟨r, rfl, hr, rfl⟩; obtain rfl : r = true := hr.2 HS.out; clear hr)
    | (go_at_call 10; refine (L.new seed hd _).mono ?_; rintro e w3 ⟨b, rfl, -, -, hg⟩; replace hB := gr_below hB hg (fun _ e => by cases e); clear hg))
  go_ret
  exact ⟨rfl, hB⟩
theorem sketchAll_walk (L : SketchLib Sk) (W : World) (a0 : Int) (w0 : (Lit.int .u64 a0).wf = true) (a1 : Option Addr) (len1 cap1 : Nat) (z1 : List Op) (w1 : OpsAt W a1 len1 cap1 z1) (s2 : ByteArray) (_w2 : s2.size ≤ 140737488351232) :
    Calls Try.prog 6 #[.int .u64 a0, .slice a1 len1 cap1, .string s2] W fun e W' => e = .returned (.bool true) ∧ Below W.heap.size W W' := by
  obtain ⟨p0, p1⟩ := u64_wf w0
  obtain ⟨sd, rfl⟩ := Int.eq_ofNat_of_zero_le p0
  by_cases h : Short z1
  · by_cases hx : s2.size ≤ 300
    · exact sketchAll_in L sd (by omega) w1 s2 h hx
    · exact sketchAll_long L sd (by omega) w1 s2 h (by omega)
  · exact sketchAll_out L sd (by omega) w1 s2 h
end Go.Proofs.Ytjjmnjcgebadoaa
