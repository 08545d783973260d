/- BloomApart returns true for every seed, all texts and one more, and writes nothing that was there. Conditions: the contracts of package bloom. -/
import Derived.Test.YtidnjcoljfccdaaBloomLib
import Derived.Deep.RegionWith
namespace Go.Proofs.Ytidnjcoljfccdaa
open Go.RowKit
variable {Fil : World → Nat → Nat → List Nat → Prop}

set_option maxHeartbeats 4000000 in
theorem bloomApart_in (L : BloomLib Fil) (seed : Nat) (hd : seed < 18446744073709551616) {w : World} {a : Option Addr} {len cap : Nat} {os : List (Int × ByteArray)} (h : OpsAt w a len cap os) (hS : Short os 100) (x : ByteArray) (hx : x.size ≤ 300) :
    Calls Try.prog 6 #[.int .u64 seed, .slice a len cap, .string x] w fun e w' => e = .returned (.bool true) ∧ Below w.heap.size w w' := by
  have hl := h.len_
  have hlen : len ≤ 100 := by have := hS.1; omega
  have hxi : (x.size : Int) ≤ 300 := by omega
  have HS := hide hS
  have hB : Below w.heap.size w w := Below.refl _ _
  clear hS
  go_enter Try.func6, Try.ntmps6
  go_wp2_with (first
    | (go_at_call 8; refine (awake_any L _).mono ?_; rintro e w1 ⟨rfl, hb⟩; replace hB := Bt hB hb; clear hb)
    | (go_at_call 9; refine (short_any (h.on hB) 100 (by decide)).mono ?_; rintro e w2 ⟨r, rfl, hr, rfl⟩; obtain rfl : r = true := hr.2 HS.out; clear hr)
    | (go_at_call 10; refine (L.new seed hd _).mono ?_; rintro e w3 ⟨b, rfl, hb, hF, hg⟩; replace hb := Nat.le_trans hB.size hb; replace hB := gr_below hB hg (fun _ e => by cases e); clear hg))
  go_loopw [10] (fun i wr => ∃ (k : Nat) (S : List Nat), k ≤ len ∧ i = .int .i64 k ∧ Fil wr b seed S ∧ Below w.heap.size w wr) (fun i _ => len - (intOf i).toNat)
  case atStart => exact ⟨0, [], Nat.zero_le _, rfl, hF, hB⟩
  case round =>
    clear hF hB
    obtain ⟨k, S, hk, rfl, hF, hB⟩ := hrel
    by_cases hlt : k < len
    · obtain ⟨c, off, rfl, hc0, -, hcell⟩ := h.at k (by omega)
      have HSz := hide (HS.out.2 _ (List.getElem_mem (show k < os.length by omega)))
      obtain ⟨s, hs⟩ : ∃ s, s = (os[k]'(by omega)).2 := ⟨_, rfl⟩
      rw [← hs] at hcell HSz
      have hsz := HSz.out
      have hct : wr.cell? ⟨c, off + k * 2 + 1, none⟩ = some (.string s) := (hB.cell (p := ⟨c, off + k * 2 + 1, none⟩) hc0).trans hcell
      clear hs hcell
      go_wp2_with (go_at_call 11; refine (L.add hF _ hsz).mono ?_; rintro e w1 ⟨rfl, hF2, hg⟩; replace hB := gr_below hB hg (fun n e => by cases e; exact hb); clear hg hF hct; have hF := hF2; clear hF2)
      go_roundw
      case rel => exact ⟨k + 1, _, by omega, by go_num, hF, hB⟩
      case measure => simp [intOf]; omega
    · obtain ⟨n, hn⟩ : ∃ n, S.length = n := ⟨_, rfl⟩
      obtain ⟨m, hm⟩ : ∃ m, (addS S (pls seed x.data.toList)).length = m := ⟨_, rfl⟩
      have h3 := (len_add (pls seed x.data.toList) S).1
      rw [hm, hn] at h3
      have h31 : (n : Int) ≤ (m : Int) := by omega
      have HN := hide hn
      have HM := hide hm
      obtain ⟨r, hr⟩ : ∃ r, hasS S (pls seed x.data.toList) = r := ⟨_, rfl⟩
      have HR := hide hr
      clear hn hm hr h3
      have hbl := L.lt hF
      go_wp2_with (first
        | (go_at_call_of 17 (Value.pointer (some ⟨b3, 0, none⟩)); refine (L.ones hH).mono ?_; rintro e w1 ⟨he, hH2, hg⟩; replace hB := gr_below hB hg (fun _ e => by cases e); rw [List.length_nil] at he; subst he)
        | (go_at_call_of 17 (Value.pointer (some ⟨b2, 0, none⟩)); refine (L.ones hG).mono ?_; rintro e w1 ⟨he, hG2, hg⟩; replace hB := gr_below hB hg (fun _ e => by cases e); replace hF := L.kept hF hg (by simp); replace hH := L.kept hH hg (by simp); clear hg hG; have hG := hG2; clear hG2; rw [HM.out] at he; subst he)
        | (go_at_call_of 13 (Value.pointer (some ⟨b2, 0, none⟩)); refine (L.has hG _ hx).mono ?_; rintro e w1 ⟨he, hG2, hg⟩; replace hB := gr_below hB hg (fun _ e => by cases e); replace hF := L.kept hF hg (by simp); replace hH := L.kept hH hg (by simp); clear hg hG; have hG := hG2; clear hG2; rw [has_add] at he; subst he)
        | (go_at_call_of 13 (Value.pointer (some ⟨b, 0, none⟩)); refine (L.has hF _ hx).mono ?_; rintro e w1 ⟨he, hF2, hg⟩; replace hB := gr_below hB hg (fun _ e => by cases e); (try (replace hG := L.kept hG hg (by simp); replace hH := L.kept hH hg (by simp))); clear hg hF; have hF := hF2; clear hF2; rw [HR.out] at he; subst he)
        | (go_at_call_of 17 (Value.pointer (some ⟨b, 0, none⟩)); refine (L.ones hF).mono ?_; rintro e w1 ⟨he, hF2, hg⟩; replace hB := gr_below hB hg (fun _ e => by cases e); (try (replace hG := L.kept hG hg (by simp); replace hH := L.kept hH hg (by simp))); clear hg hF; have hF := hF2; clear hF2; rw [HN.out] at he; subst he)
        | (go_at_call 16; have hx2 := hG; clear hx2; refine (L.copy hF).mono ?_; rintro e w1 ⟨b3, rfl, hb3, hH, hg⟩; have hb32 : b2 ≠ b3 := (by have := L.lt hG; omega); have hb31 : b ≠ b3 := (by have := L.lt hF; omega); replace hb3 := Nat.le_trans hB.size hb3; replace hB := gr_below hB hg (fun _ e => by cases e); replace hF := L.kept hF hg (by simp); replace hG := L.kept hG hg (by simp); clear hg)
        | (go_at_call 16; refine (L.copy hF).mono ?_; rintro e w1 ⟨b2, rfl, hb2, hG, hg⟩; have hb21 : b ≠ b2 := (by have := L.lt hF; omega); replace hb2 := Nat.le_trans hB.size hb2; replace hB := gr_below hB hg (fun _ e => by cases e); replace hF := L.kept hF hg (by simp); clear hg)
        | (go_at_call 11; refine (L.add hG _ hx).mono ?_; rintro e w1 ⟨rfl, hG2, hg⟩; replace hB := gr_below hB hg (fun n e => by cases e; exact hb2); replace hF := L.kept hF hg (fun e => by cases e; exact hb21 rfl); replace hH := L.kept hH hg (fun e => by cases e; exact hb32 rfl); clear hg hG; have hG := hG2; clear hG2)
        | (go_at_call 15; refine (L.clear hH).mono ?_; rintro e w1 ⟨⟨v, rfl⟩, hH2, hg⟩; replace hB := gr_below hB hg (fun n e => by cases e; exact hb3); replace hF := L.kept hF hg (fun e => by cases e; exact hb31 rfl); replace hG := L.kept hG hg (fun e => by cases e; exact hb32 rfl); clear hg hH; have hH := hH2; clear hH2))
      go_ret
      exact ⟨rfl, hB⟩
set_option maxHeartbeats 2000000 in
theorem bloomApart_out (L : BloomLib Fil) (seed : Nat) (hd : seed < 18446744073709551616) {w : World} {a : Option Addr} {len cap : Nat} {os : List (Int × ByteArray)} (h : OpsAt w a len cap os) (x : ByteArray) (hS : ¬ Short os 100) :
    Calls Try.prog 6 #[.int .u64 seed, .slice a len cap, .string x] w fun e w' => e = .returned (.bool true) ∧ Below w.heap.size w w' := by
  have HS := hide hS
  have hB : Below w.heap.size w w := Below.refl _ _
  clear hS
  go_enter Try.func6, Try.ntmps6
  go_wp2_with (first
    | (go_at_call 8; refine (awake_any L _).mono ?_; rintro e w1 ⟨rfl, hb⟩; replace hB := Bt hB hb; clear hb)
    | (go_at_call 9; refine (short_any (h.on hB) 100 (by decide)).mono ?_; rintro e w2 ⟨r, rfl, hr, rfl⟩; obtain rfl : r = false := Bool.eq_false_iff.2 (fun e => HS.out (hr.1 e)); clear hr)
    | (go_at_call 10; refine (L.new seed hd _).mono ?_; rintro e w3 ⟨b, rfl, -, -, hg⟩; replace hB := gr_below hB hg (fun _ e => by cases e); clear hg))
  go_ret
  exact ⟨rfl, hB⟩
set_option maxHeartbeats 2000000 in
theorem bloomApart_long (L : BloomLib Fil) (seed : Nat) (hd : seed < 18446744073709551616) {w : World} {a : Option Addr} {len cap : Nat} {os : List (Int × ByteArray)} (h : OpsAt w a len cap os) (x : ByteArray) (hS : Short os 100) (hx : 300 < x.size) :
    Calls Try.prog 6 #[.int .u64 seed, .slice a len cap, .string x] w fun e w' => e = .returned (.bool true) ∧ Below w.heap.size w w' := by
  have HS := hide hS
  have hB : Below w.heap.size w w := Below.refl _ _
  have hxi : (300 : Int) < (x.size : Int) := by omega
  clear hS
  go_enter Try.func6, Try.ntmps6
  go_wp2_with (first
    | (go_at_call 8; refine (awake_any L _).mono ?_; rintro e w1 ⟨rfl, hb⟩; replace hB := Bt hB hb; clear hb)
    | (go_at_call 9; refine (short_any (h.on hB) 100 (by decide)).mono ?_; rintro e w2 ⟨r, rfl, hr, rfl⟩; obtain rfl : r = true := hr.2 HS.out; clear hr)
    | (go_at_call 10; refine (L.new seed hd _).mono ?_; rintro e w3 ⟨b, rfl, -, -, hg⟩; replace hB := gr_below hB hg (fun _ e => by cases e); clear hg))
  go_ret
  exact ⟨rfl, hB⟩
theorem bloomApart_walk (L : BloomLib Fil) (W : World) (a0 : Int) (w0 : (Lit.int .u64 a0).wf = true) (a1 : Option Addr) (len1 cap1 : Nat) (z1 : List (Int × ByteArray)) (w1 : OpsAt W a1 len1 cap1 z1) (s2 : ByteArray) (_w2 : s2.size ≤ 140737488351232) :
    Calls Try.prog 6 #[.int .u64 a0, .slice a1 len1 cap1, .string s2] W fun e W' => e = .returned (.bool true) ∧ Below W.heap.size W W' := by
  obtain ⟨p0, p1⟩ := u64_wf w0
  obtain ⟨sd, rfl⟩ := Int.eq_ofNat_of_zero_le p0
  by_cases h : Short z1 100
  · by_cases hx : s2.size ≤ 300
    · exact bloomApart_in L sd (by omega) w1 h s2 hx
    · exact bloomApart_long L sd (by omega) w1 s2 h (by omega)
  · exact bloomApart_out L sd (by omega) w1 s2 h
end Go.Proofs.Ytidnjcoljfccdaa
