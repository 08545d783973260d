/- SketchApart returns true for every seed, all calls and one more text, and writes nothing that was there. Conditions: the contracts of package sketch. -/
import Derived.Test.YtjjmnjcgebadoaaSketchLib
import Derived.Deep.RegionWith
namespace Go.Proofs.Ytjjmnjcgebadoaa
open Go.RowKit
variable {Sk : World → Nat → Nat → St → Prop}

set_option maxHeartbeats 4000000 in
theorem sketchApart_in (L : SketchLib Sk) (seed : Nat) (hd : seed < 18446744073709551616) {w : World} {a : Option Addr} {len cap : Nat} {os : List Op} (h : OpsAt w a len cap os) (x : ByteArray) (hS : Short os) (hx : x.size ≤ 300) :
    Calls Try.prog 7 #[.int .u64 seed, .slice a len cap, .string x] w fun e w' => e = .returned (.bool true) ∧ Below w.heap.size w w' := by
  have hl := h.len_
  have hlen : len ≤ 60 := by have := hS.1; omega
  have hxi : (x.size : Int) ≤ 300 := by omega
  have HS := hide hS
  have hB : Below w.heap.size w w := Below.refl _ _
  clear hS
  go_enter Try.func7, Try.ntmps7
  go_wp2_with (first
    | (go_at_call 8; refine (awake_any L _).mono ?_; rintro e w1 ⟨rfl, hb⟩; replace hB := Bt hB hb; clear hb)
    | (go_at_call 9; refine (short_any (h.on hB)).mono ?_; rintro e w2 ⟨r, rfl, hr, rfl⟩; obtain rfl : r = true := hr.2 HS.out; clear hr)
    | (go_at_call 10; refine (L.new seed hd _).mono ?_; rintro e w3 ⟨b, rfl, hb, hF, hg⟩; replace hb := Nat.le_trans hB.size hb; replace hB := gr_below hB hg (fun _ e => by cases e); clear hg))
  go_loopw [10] (fun i wr => ∃ (k : Nat) (st : St), k ≤ len ∧ i = .int .i64 k ∧ Sk wr b seed st ∧ Below w.heap.size w wr) (fun i _ => len - (intOf i).toNat)
  case atStart => exact ⟨0, fresh, Nat.zero_le _, rfl, hF, hB⟩
  case round =>
    clear hF hB
    obtain ⟨k, st, hk, rfl, hF, hB⟩ := hrel
    by_cases hlt : k < len
    · obtain ⟨c, off, kd, tm, s, rfl, hcell, he, -, htm⟩ := h.at k (by omega)
      have hsz := (short_at HS.out (show k < os.length by omega) he).1
      have ht1 := (short_at HS.out (show k < os.length by omega) he).2
      clear he
      go_wp2
      go_loopw [11] (fun i wr => ∃ (j : Nat) (st : St), (j = 0 ∨ (j : Int) ≤ tm) ∧ i = .int .i64 j ∧ Sk wr b seed st ∧ Below w.heap.size w wr) (fun i _ => tm.toNat - (intOf i).toNat)
      case atStart => exact ⟨0, st, .inl rfl, rfl, hF, hB⟩
      case round =>
        clear hF hB
        obtain ⟨j, st, hj, rfl, hF, hB⟩ := hrel
        have hcq := hcell.on (Nat.le_refl _) hB
        have hct := hcq.txt
        have hcm := hcq.tms
        clear hcq
        by_cases hjt : (j : Int) < tm
        · go_wp2_with (go_at_call 13; refine (L.add hF _ hsz).mono ?_; rintro e w1 ⟨he, hF2, hg⟩; replace hB := gr_below hB hg (fun n e => by cases e; exact hb); clear hg hF hct hcm; have hF := hF2; clear hF2; have hcq := hcell.on (Nat.le_refl _) hB; have hct := hcq.txt; have hcm := hcq.tms; clear hcq; subst he)
          go_roundw
          case rel => exact ⟨j + 1, _, .inr (by omega), by go_num, hF, hB⟩
          case measure => simp [intOf]; omega
        · go_wp2
          go_roundw
          case rel => exact ⟨k + 1, _, by omega, by go_num, hF, hB⟩
          case measure => simp [intOf]; omega
    · obtain ⟨n, hn⟩ : ∃ n, cnt st.1 (plcs seed x.data.toList) = n := ⟨_, rfl⟩
      obtain ⟨m, hm⟩ : ∃ m, st.2 = m := ⟨_, rfl⟩
      have HN := hide hn
      have HM := hide hm
      clear hn hm
      go_wp2_with (first
        | (go_at_call_of 16 (Value.pointer (some ⟨b2, 0, none⟩)); refine (L.count hG _ hx).mono ?_; rintro e w1 ⟨he, hG2, hg⟩; replace hB := gr_below hB hg (fun _ e => by cases e); replace hF := L.kept hF hg (by simp); clear hg hG; have hG := hG2; clear hG2; rw [HN.out] at he; subst he)
        | (go_at_call_of 15 (Value.pointer (some ⟨b2, 0, none⟩)); refine (L.age hG).mono ?_; rintro e w1 ⟨he, hG2, hg⟩; replace hB := gr_below hB hg (fun _ e => by cases e); replace hF := L.kept hF hg (by simp); clear hg hG; have hG := hG2; clear hG2; rw [HM.out] at he; subst he)
        | (go_at_call_of 16 (Value.pointer (some ⟨b, 0, none⟩)); refine (L.count hF _ hx).mono ?_; rintro e w1 ⟨he, hF2, hg⟩; replace hB := gr_below hB hg (fun _ e => by cases e); (try (replace hG := L.kept hG hg (by simp))); clear hg hF; have hF := hF2; clear hF2; rw [HN.out] at he; subst he)
        | (go_at_call_of 15 (Value.pointer (some ⟨b, 0, none⟩)); refine (L.age hF).mono ?_; rintro e w1 ⟨he, hF2, hg⟩; replace hB := gr_below hB hg (fun _ e => by cases e); (try (replace hG := L.kept hG hg (by simp))); clear hg hF; have hF := hF2; clear hF2; rw [HM.out] at he; subst he)
        | (go_at_call 12; refine (L.copy hF).mono ?_; rintro e w1 ⟨b2, rfl, hb2, hG, hg⟩; have hb21 : b ≠ b2 := (by have := L.lt hF; omega); replace hb2 := Nat.le_trans hB.size hb2; replace hB := gr_below hB hg (fun _ e => by cases e); replace hF := L.kept hF hg (by simp); clear hg)
        | (go_at_call 13; refine (L.add hG _ hx).mono ?_; rintro e w1 ⟨rfl, hG2, hg⟩; replace hB := gr_below hB hg (fun n e => by cases e; exact hb2); replace hF := L.kept hF hg (fun e => by cases e; exact hb21 rfl); clear hg hG; have hG := hG2; clear hG2))
      go_ret
      exact ⟨rfl, hB⟩
set_option maxHeartbeats 2000000 in
theorem sketchApart_out (L : SketchLib Sk) (seed : Nat) (hd : seed < 18446744073709551616) {w : World} {a : Option Addr} {len cap : Nat} {os : List Op} (h : OpsAt w a len cap os) (x : ByteArray) (hS : ¬ Short os) :
    Calls Try.prog 7 #[.int .u64 seed, .slice a len cap, .string x] w fun e w' => e = .returned (.bool true) ∧ Below w.heap.size w w' := by
  have HS := hide hS
  have hB : Below w.heap.size w w := Below.refl _ _
  clear hS
  go_enter Try.func7, Try.ntmps7
  go_wp2_with (first
    | (go_at_call 8; refine (awake_any L _).mono ?_; rintro e w1 ⟨rfl, hb⟩; replace hB := Bt hB hb; clear hb)
    | (go_at_call 9; refine (short_any (h.on hB)).mono ?_; rintro e w2 ⟨r, rfl, hr, rfl⟩; obtain rfl : r = false := Bool.eq_false_iff.2 (fun e => HS.out (hr.1 e)); clear hr)
    | (go_at_call 10; refine (L.new seed hd _).mono ?_; rintro e w3 ⟨b, rfl, -, -, hg⟩; replace hB := gr_below hB hg (fun _ e => by cases e); clear hg))
  go_ret
  exact ⟨rfl, hB⟩
set_option maxHeartbeats 2000000 in
theorem sketchApart_long (L : SketchLib Sk) (seed : Nat) (hd : seed < 18446744073709551616) {w : World} {a : Option Addr} {len cap : Nat} {os : List Op} (h : OpsAt w a len cap os) (x : ByteArray) (hS : Short os) (hx : 300 < x.size) :
    Calls Try.prog 7 #[.int .u64 seed, .slice a len cap, .string x] w fun e w' => e = .returned (.bool true) ∧ Below w.heap.size w w' := by
  have HS := hide hS
  have hB : Below w.heap.size w w := Below.refl _ _
  have hxi : (300 : Int) < (x.size : Int) := by omega
  clear hS hx
  go_enter Try.func7, Try.ntmps7
  go_wp2_with (first
    | (go_at_call 8; refine (awake_any L _).mono ?_; rintro e w1 ⟨rfl, hb⟩; replace hB := Bt hB hb; clear hb)
    | (go_at_call 9; refine (short_any (h.on hB)).mono ?_; rintro e w2 ⟨r, rfl, hr, rfl⟩; obtain rfl : r = true := hr.2 HS.out; clear hr)
    | (go_at_call 10; refine (L.new seed hd _).mono ?_; rintro e w3 ⟨b, rfl, -, -, hg⟩; replace hB := gr_below hB hg (fun _ e => by cases e); clear hg))
  go_ret
  exact ⟨rfl, hB⟩
theorem sketchApart_walk (L : SketchLib Sk) (W : World) (a0 : Int) (w0 : (Lit.int .u64 a0).wf = true) (a1 : Option Addr) (len1 cap1 : Nat) (z1 : List Op) (w1 : OpsAt W a1 len1 cap1 z1) (s2 : ByteArray) (_w2 : s2.size ≤ 140737488351232) :
    Calls Try.prog 7 #[.int .u64 a0, .slice a1 len1 cap1, .string s2] W fun e W' => e = .returned (.bool true) ∧ Below W.heap.size W W' := by
  obtain ⟨p0, p1⟩ := u64_wf w0
  obtain ⟨sd, rfl⟩ := Int.eq_ofNat_of_zero_le p0
  by_cases h : Short z1
  · by_cases hx : s2.size ≤ 300
    · exact sketchApart_in L sd (by omega) w1 s2 h hx
    · exact sketchApart_long L sd (by omega) w1 s2 h (by omega)
  · exact sketchApart_out L sd (by omega) w1 s2 h
end Go.Proofs.Ytjjmnjcgebadoaa
