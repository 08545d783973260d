/- BloomKeeps returns true for every seed, all texts and one more, and writes nothing that was there. Conditions: the contracts of package bloom. -/
import Derived.Test.YtidnjcoljfccdaaBloomLib
namespace Go.Proofs.Ytidnjcoljfccdaa
open Go.RowKit
variable {Fil : World → Nat → Nat → List Nat → Prop}

set_option maxHeartbeats 4000000 in
theorem bloomKeeps_in (L : BloomLib Fil) (seed : Nat) (hd : seed < 18446744073709551616) {w : World} {a : Option Addr} {len cap : Nat} {os : List (Int × ByteArray)} (h : OpsAt w a len cap os) (hS : Short os 150) (x : ByteArray) (hx : x.size ≤ 300) :
    Calls Try.prog 4 #[.int .u64 seed, .slice a len cap, .string x] w fun e w' => e = .returned (.bool true) ∧ Below w.heap.size w w' := by
  have hl := h.len_
  have hlen : len ≤ 150 := by have := hS.1; omega
  have hxi : (x.size : Int) ≤ 300 := by omega
  have HS := hide hS
  have hB : Below w.heap.size w w := Below.refl _ _
  clear hS
  go_enter Try.func4, Try.ntmps4
  go_wp2_with (first
    | (go_at_call 8; refine (awake_any L _).mono ?_; rintro e w1 ⟨rfl, hb⟩; replace hB := Bt hB hb; clear hb)
    | (go_at_call 9; refine (short_any (h.on hB) 150 (by decide)).mono ?_; rintro e w2 ⟨r, rfl, hr, rfl⟩; obtain rfl : r = true := hr.2 HS.out; clear hr)
    | (go_at_call 10; refine (L.new seed hd _).mono ?_; rintro e w3 ⟨b, rfl, hb, hF, hg⟩; replace hb := Nat.le_trans hB.size hb; replace hB := gr_below hB hg (fun _ e => by cases e); clear hg)
    | (go_at_call 13; refine (L.has hF _ hx).mono ?_; rintro e w1 ⟨he, hF2, hg⟩; replace hB := gr_below hB hg (fun _ e => by cases e); clear hg hF; have hF := hF2; clear hF2; rw [has_nil] at he; subst he))
  go_loopw [11] (fun i wr => ∃ (k : Nat), k ≤ len ∧ i = .int .i64 k ∧ Fil wr b seed (addAll seed [] ((texts os).take k)) ∧ Below w.heap.size w wr) (fun i _ => len - (intOf i).toNat)
  case atStart => exact ⟨0, Nat.zero_le _, rfl, hF, hB⟩
  case round =>
    clear hF hB
    obtain ⟨k, hk, rfl, hF, hB⟩ := hrel
    by_cases hlt : k < len
    · obtain ⟨c, off, rfl, hc0, -, hcell⟩ := h.at k (by omega)
      have HSz := hide (HS.out.2 _ (List.getElem_mem (show k < os.length by omega)))
      obtain ⟨s, hs⟩ : ∃ s, s = (os[k]'(by omega)).2 := ⟨_, rfl⟩
      rw [← hs] at hcell HSz
      have hsz := HSz.out
      have hct : wr.cell? ⟨c, off + k * 2 + 1, none⟩ = some (.string s) := (hB.cell (p := ⟨c, off + k * 2 + 1, none⟩) hc0).trans hcell
      have HT := hide (texts_step seed os k (by omega) s hs)
      clear hs hcell
      go_wp2_with (go_at_call 11; refine (L.add hF _ hsz).mono ?_; rintro e w1 ⟨rfl, hF2, hg⟩; replace hB := gr_below hB hg (fun n e => by cases e; exact hb); clear hg hF hct; have hF := hF2; clear hF2; rw [← HT.out] at hF)
      go_roundw
      case rel => exact ⟨k + 1, by omega, by go_num, hF, hB⟩
      case measure => simp [intOf]; omega
    · rw [texts_all os k (by omega)] at hF
      go_wp2
      go_loopw [12] (fun i wr => ∃ (k : Nat), k ≤ len ∧ i = .int .i64 k ∧ Fil wr b seed (addAll seed [] (texts os)) ∧ Below w.heap.size w wr) (fun i _ => len - (intOf i).toNat)
      case atStart => exact ⟨0, Nat.zero_le _, rfl, hF, hB⟩
      case round =>
        clear hF hB
        obtain ⟨j, hj, rfl, hF, hB⟩ := hrel
        by_cases hlt2 : j < len
        · obtain ⟨c, off, rfl, hc0, -, hcell⟩ := h.at j (by omega)
          have HSz := hide (HS.out.2 _ (List.getElem_mem (show j < os.length by omega)))
          obtain ⟨s, hs⟩ : ∃ s, s = (os[j]'(by omega)).2 := ⟨_, rfl⟩
          rw [← hs] at hcell HSz
          have hsz := HSz.out
          have hct : wr.cell? ⟨c, off + j * 2 + 1, none⟩ = some (.string s) := (hB.cell (p := ⟨c, off + j * 2 + 1, none⟩) hc0).trans hcell
          have HT := hide (has_all seed [] (texts os) _ (texts_mem os j (by omega) s hs))
          clear hs hcell
          go_wp2_with (go_at_call 13; refine (L.has hF _ hsz).mono ?_; rintro e w1 ⟨he, hF2, hg⟩; replace hB := gr_below hB hg (fun _ e => by cases e); clear hg hF hct; have hF := hF2; clear hF2; rw [HT.out] at he; subst he)
          go_roundw
          case rel => exact ⟨j + 1, by omega, by go_num, hF, hB⟩
          case measure => simp [intOf]; omega
        · have hG := (L.good hF).1
          have h3 := (len_all seed (texts os) []).2
          rw [texts_len, List.length_nil, Nat.zero_add] at h3
          have h5 := good_len hG
          obtain ⟨n, hn⟩ : ∃ n, (addAll seed [] (texts os)).length = n := ⟨_, rfl⟩
          obtain ⟨r, hr⟩ : ∃ r, hasS (addAll seed [] (texts os)) (pls seed x.data.toList) = r := ⟨_, rfl⟩
          rw [hn] at h3 h5
          have h3i : (n : Int) ≤ 3 * (len : Int) := by omega
          have HN := hide hn
          have HR := hide hr
          have hcase : (n : Int) < 512 ∨ ((512 : Int) ≤ (n : Int) ∧ r = true) := by
            by_cases h6 : n < 512
            · left; omega
            · right
              refine ⟨by omega, ?_⟩
              rw [← hr]
              exact full_has hG (by omega) seed _
          clear hn hr hG h3
          rcases hcase with h6 | ⟨h6, rfl⟩
          all_goals
            go_wp2_with (first
              | (go_at_call 17; refine (L.ones hF).mono ?_; rintro e w1 ⟨he, hF2, hg⟩; replace hB := gr_below hB hg (fun _ e => by cases e); clear hg hF; have hF := hF2; clear hF2; (first | rw [HN.out] at he | rw [List.length_nil] at he); subst he)
              | (go_at_call 13; refine (L.has hF _ hx).mono ?_; rintro e w1 ⟨he, hF2, hg⟩; replace hB := gr_below hB hg (fun _ e => by cases e); clear hg hF; have hF := hF2; clear hF2; (first | rw [HR.out] at he | rw [has_nil] at he); subst he)
              | (go_at_call 15; refine (L.clear hF).mono ?_; rintro e w1 ⟨⟨v, rfl⟩, hF2, hg⟩; replace hB := gr_below hB hg (fun n e => by cases e; exact hb); clear hg hF; have hF := hF2; clear hF2))
            go_ret
            exact ⟨rfl, hB⟩
set_option maxHeartbeats 2000000 in
theorem bloomKeeps_out (L : BloomLib Fil) (seed : Nat) (hd : seed < 18446744073709551616) {w : World} {a : Option Addr} {len cap : Nat} {os : List (Int × ByteArray)} (h : OpsAt w a len cap os) (x : ByteArray) (hS : ¬ Short os 150) :
    Calls Try.prog 4 #[.int .u64 seed, .slice a len cap, .string x] w fun e w' => e = .returned (.bool true) ∧ Below w.heap.size w w' := by
  have HS := hide hS
  have hB : Below w.heap.size w w := Below.refl _ _
  clear hS
  go_enter Try.func4, Try.ntmps4
  go_wp2_with (first
    | (go_at_call 8; refine (awake_any L _).mono ?_; rintro e w1 ⟨rfl, hb⟩; replace hB := Bt hB hb; clear hb)
    | (go_at_call 9; refine (short_any (h.on hB) 150 (by decide)).mono ?_; rintro e w2 ⟨r, rfl, hr, rfl⟩; obtain rfl : r = false := Bool.eq_false_iff.2 (fun e => HS.out (hr.1 e)); clear hr)
    | (go_at_call 10; refine (L.new seed hd _).mono ?_; rintro e w3 ⟨b, rfl, -, -, hg⟩; replace hB := gr_below hB hg (fun _ e => by cases e); clear hg))
  go_ret
  exact ⟨rfl, hB⟩
set_option maxHeartbeats 2000000 in
theorem bloomKeeps_long (L : BloomLib Fil) (seed : Nat) (hd : seed < 18446744073709551616) {w : World} {a : Option Addr} {len cap : Nat} {os : List (Int × ByteArray)} (h : OpsAt w a len cap os) (x : ByteArray) (hS : Short os 150) (hx : 300 < x.size) :
    Calls Try.prog 4 #[.int .u64 seed, .slice a len cap, .string x] w fun e w' => e = .returned (.bool true) ∧ Below w.heap.size w w' := by
  have HS := hide hS
  have hB : Below w.heap.size w w := Below.refl _ _
  have hxi : (300 : Int) < (x.size : Int) := by omega
  clear hS
  go_enter Try.func4, Try.ntmps4
  go_wp2_with (first
    | (go_at_call 8; refine (awake_any L _).mono ?_; rintro e w1 ⟨rfl, hb⟩; replace hB := Bt hB hb; clear hb)
    | (go_at_call 9; refine (short_any (h.on hB) 150 (by decide)).mono ?_; rintro e w2 ⟨r, rfl, hr, rfl⟩; obtain rfl : r = true := hr.2 HS.out; clear hr)
    | (go_at_call 10; refine (L.new seed hd _).mono ?_; rintro e w3 ⟨b, rfl, -, -, hg⟩; replace hB := gr_below hB hg (fun _ e => by cases e); clear hg))
  go_ret
  exact ⟨rfl, hB⟩
theorem bloomKeeps_walk (L : BloomLib Fil) (W : World) (a0 : Int) (w0 : (Lit.int .u64 a0).wf = true) (a1 : Option Addr) (len1 cap1 : Nat) (z1 : List (Int × ByteArray)) (w1 : OpsAt W a1 len1 cap1 z1) (s2 : ByteArray) (_w2 : s2.size ≤ 140737488351232) :
    Calls Try.prog 4 #[.int .u64 a0, .slice a1 len1 cap1, .string s2] W fun e W' => e = .returned (.bool true) ∧ Below W.heap.size W W' := by
  obtain ⟨p0, p1⟩ := u64_wf w0
  obtain ⟨sd, rfl⟩ := Int.eq_ofNat_of_zero_le p0
  by_cases h : Short z1 150
  · by_cases hx : s2.size ≤ 300
    · exact bloomKeeps_in L sd (by omega) w1 h s2 hx
    · exact bloomKeeps_long L sd (by omega) w1 s2 h (by omega)
  · exact bloomKeeps_out L sd (by omega) w1 s2 h
end Go.Proofs.Ytidnjcoljfccdaa
