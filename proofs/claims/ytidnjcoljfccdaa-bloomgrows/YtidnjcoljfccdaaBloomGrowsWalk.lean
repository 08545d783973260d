/- BloomGrows returns true for every seed and all texts, and writes nothing that was there. Conditions: the contracts of package bloom. -/
import Derived.Test.YtidnjcoljfccdaaBloomLib
namespace Go.Proofs.Ytidnjcoljfccdaa
open Go.RowKit
variable {Fil : World → Nat → Nat → List Nat → Prop}

set_option maxHeartbeats 2000000 in
theorem bloomGrows_in (L : BloomLib Fil) (seed : Nat) (hd : seed < 18446744073709551616) {w : World} {a : Option Addr} {len cap : Nat} {os : List (Int × ByteArray)} (h : OpsAt w a len cap os) (hS : Short os 100) :
    Calls Try.prog 7 #[.int .u64 seed, .slice a len cap] w fun e w' => e = .returned (.bool true) ∧ Below w.heap.size w w' := by
  have hl := h.len_
  have hlen : len ≤ 100 := by have := hS.1; omega
  have HS := hide hS
  have hB : Below w.heap.size w w := Below.refl _ _
  clear hS
  go_enter Try.func7, Try.ntmps7
  go_wp2_with (first
    | (go_at_call 8; refine (awake_any L _).mono ?_; rintro e w1 ⟨rfl, hb⟩; replace hB := Bt hB hb; clear hb)
    | (go_at_call 9; refine (short_any (h.on hB) 100 (by decide)).mono ?_; rintro e w2 ⟨r, rfl, hr, rfl⟩; obtain rfl : r = true := hr.2 HS.out; clear hr)
    | (go_at_call 10; refine (L.new seed hd _).mono ?_; rintro e w3 ⟨b, rfl, hb, hF, hg⟩; replace hb := Nat.le_trans hB.size hb; replace hB := gr_below hB hg (fun _ e => by cases e); clear hg))
  go_loopw [8] (fun i wr => ∃ (k : Nat) (S : List Nat), k ≤ len ∧ i = .int .i64 k ∧ Fil wr b seed S ∧ Below w.heap.size w wr) (fun i _ => len - (intOf i).toNat)
  case atStart => exact ⟨0, [], Nat.zero_le _, rfl, hF, hB⟩
  case round =>
    clear hF hB
    obtain ⟨k, S, hk, rfl, hF, hB⟩ := hrel
    by_cases hlt : k < len
    · obtain ⟨c, off, rfl, hc0, -, hcell⟩ := h.at k (by omega)
      have HSz := hide (HS.out.2 _ (List.getElem_mem (show k < os.length by omega)))
      obtain ⟨s, hs⟩ : ∃ s, s = (os[k]'(by omega)).2 := ⟨_, rfl⟩
      rw [← hs] at hcell HSz
      have hsz := HSz.out
      have HC := hide hcell
      have hct : wr.cell? ⟨c, off + k * 2 + 1, none⟩ = some (.string s) := (hB.cell (p := ⟨c, off + k * 2 + 1, none⟩) hc0).trans hcell
      obtain ⟨n, hn⟩ : ∃ n, S.length = n := ⟨_, rfl⟩
      obtain ⟨m, hm⟩ : ∃ m, (addS S (pls seed s.data.toList)).length = m := ⟨_, rfl⟩
      have h3 := len_add (pls seed s.data.toList) S
      rw [hm, hn, pls_len] at h3
      have h31 : (n : Int) ≤ (m : Int) := by omega
      have h32 : (m : Int) ≤ (n : Int) + 3 := by omega
      have h33 : n ≤ 512 := by rw [← hn]; exact good_len (L.good hF).1
      have HN := hide hn
      have HM := hide hm
      have hq := had_iff S (pls seed s.data.toList)
      rw [hm, hn] at hq
      obtain ⟨r, hr⟩ : ∃ r, hasS S (pls seed s.data.toList) = r := ⟨_, rfl⟩
      rw [hr] at hq
      have HR := hide hr
      clear hs hcell hn hm hr h3
      go_wp2_with (first
        | (go_at_call 17; refine (L.ones hF).mono ?_; rintro e w1 ⟨he, hF2, hg⟩; replace hB := gr_below hB hg (fun _ e => by cases e); clear hg hF hct; have hF := hF2; clear hF2; have hct := (hB.cell (p := ⟨c, off + k * 2 + 1, none⟩) hc0).trans HC.out; (first | rw [HM.out] at he | rw [HN.out] at he); subst he)
        | (go_at_call 13; refine (L.has hF _ hsz).mono ?_; rintro e w1 ⟨he, hF2, hg⟩; replace hB := gr_below hB hg (fun _ e => by cases e); clear hg hF hct; have hF := hF2; clear hF2; have hct := (hB.cell (p := ⟨c, off + k * 2 + 1, none⟩) hc0).trans HC.out; rw [HR.out] at he; subst he)
        | (go_at_call 11; refine (L.add hF _ hsz).mono ?_; rintro e w1 ⟨he, hF2, hg⟩; replace hB := gr_below hB hg (fun n e => by cases e; exact hb); clear hg hF hct; have hF := hF2; clear hF2; have hct := (hB.cell (p := ⟨c, off + k * 2 + 1, none⟩) hc0).trans HC.out; rw [HR.out] at he; subst he))
      go_roundw
      case rel => exact ⟨k + 1, _, by omega, by go_num, hF, hB⟩
      case measure => simp [intOf]; omega
    · go_wp2
      go_ret
      exact ⟨rfl, hB⟩
set_option maxHeartbeats 2000000 in
theorem bloomGrows_out (L : BloomLib Fil) (seed : Nat) (hd : seed < 18446744073709551616) {w : World} {a : Option Addr} {len cap : Nat} {os : List (Int × ByteArray)} (h : OpsAt w a len cap os) (hS : ¬ Short os 100) :
    Calls Try.prog 7 #[.int .u64 seed, .slice a len cap] w fun e w' => e = .returned (.bool true) ∧ Below w.heap.size w w' := by
  have HS := hide hS
  have hB : Below w.heap.size w w := Below.refl _ _
  clear hS
  go_enter Try.func7, Try.ntmps7
  go_wp2_with (first
    | (go_at_call 8; refine (awake_any L _).mono ?_; rintro e w1 ⟨rfl, hb⟩; replace hB := Bt hB hb; clear hb)
    | (go_at_call 9; refine (short_any (h.on hB) 100 (by decide)).mono ?_; rintro e w2 ⟨r, rfl, hr, rfl⟩; obtain rfl : r = false := Bool.eq_false_iff.2 (fun e => HS.out (hr.1 e)); clear hr)
    | (go_at_call 10; refine (L.new seed hd _).mono ?_; rintro e w3 ⟨b, rfl, -, -, hg⟩; replace hB := gr_below hB hg (fun _ e => by cases e); clear hg))
  go_ret
  exact ⟨rfl, hB⟩
theorem bloomGrows_walk (L : BloomLib Fil) (W : World) (a0 : Int) (w0 : (Lit.int .u64 a0).wf = true) (a1 : Option Addr) (len1 cap1 : Nat) (z1 : List (Int × ByteArray)) (w1 : OpsAt W a1 len1 cap1 z1) :
    Calls Try.prog 7 #[.int .u64 a0, .slice a1 len1 cap1] W fun e W' => e = .returned (.bool true) ∧ Below W.heap.size W W' := by
  obtain ⟨p0, p1⟩ := u64_wf w0
  obtain ⟨sd, rfl⟩ := Int.eq_ofNat_of_zero_le p0
  by_cases h : Short z1 100
  · exact bloomGrows_in L sd (by omega) w1 h
  · exact bloomGrows_out L sd (by omega) w1 h
end Go.Proofs.Ytidnjcoljfccdaa
