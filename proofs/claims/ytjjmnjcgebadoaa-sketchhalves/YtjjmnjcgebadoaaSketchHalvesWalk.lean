/- SketchHalves returns true for every seed, every text and every number, and writes nothing that was there. Conditions: the contracts of package sketch. -/
import Derived.Test.YtjjmnjcgebadoaaSketchLib
import Derived.Deep.RegionWith
namespace Go.Proofs.Ytjjmnjcgebadoaa
open Go.RowKit
variable {Sk : World → Nat → Nat → St → Prop}

theorem rem_nat (k r : Nat) (h : 640 ≤ k + 1) (hr : (k + 1 - 640) % 320 = r) : ((k : Int) + 1 - 640).tmod 320 = (r : Int) ∧ ((k : Int) + 1 - 640) % 320 = (r : Int) := by
  have h1 : ((k : Int) + 1 - 640) % 320 = (r : Int) := by omega
  exact ⟨by rw [Int.tmod_eq_emod_of_nonneg (by omega)]; exact h1, h1⟩
theorem nat_beq0 (r : Nat) (h : ¬ r = 0) : ((r : Int) == 0) = false := by simpa using h
set_option maxRecDepth 100000 in
set_option maxHeartbeats 4000000 in
theorem sketchHalves_in (L : SketchLib Sk) (seed : Nat) (hd : seed < 18446744073709551616) (w : World) (x : ByteArray) (hx : x.size ≤ 300) (n : Int) (h0 : 0 ≤ n) (h3 : n ≤ 3000) :
    Calls Try.prog 5 #[.int .u64 seed, .string x, .int .i64 n] w fun e w' => e = .returned (.bool true) ∧ Below w.heap.size w w' := by
  have hxi : (x.size : Int) ≤ 300 := by omega
  have hB : Below w.heap.size w w := Below.refl _ _
  go_enter Try.func5, Try.ntmps5
  go_wp2_with (first
    | (go_at_call 8; refine (awake_any L _).mono ?_; rintro e w1 ⟨rfl, hb⟩; replace hB := Bt hB hb; clear hb)
    | (go_at_call 10; refine (L.new seed hd _).mono ?_; rintro e w3 ⟨b, rfl, hb, hF, hg⟩; replace hb := Nat.le_trans hB.size hb; replace hB := gr_below hB hg (fun _ e => by cases e); clear hg))
  go_loopw [9] (fun i wr => ∃ (k : Nat) (st : St), (k : Int) ≤ n ∧ i = .int .i64 ((k : Int) + 1) ∧ Hid (Alone st (plcs seed x.data.toList) k) ∧ Sk wr b seed st ∧ Below w.heap.size w wr) (fun i _ => n.toNat + 1 - (intOf i).toNat)
  case atStart => exact ⟨0, fresh, by omega, rfl, alone_fresh _, hF, hB⟩
  case round =>
    clear hF hB
    obtain ⟨k, st, hk, rfl, HA, hF, hB⟩ := hrel
    by_cases hlt : (k : Int) + 1 ≤ n
    · have hgood := (L.good hF).1
      have hh := alone_halved HA.out
      have hst := alone_step hgood seed x.data.toList k HA.out
      have HA2 := hide hst.1
      by_cases h6 : 640 ≤ k + 1
      · have h6i : (640 : Int) ≤ (k : Int) + 1 := by omega
        obtain ⟨r, hr⟩ : ∃ r, (k + 1 - 640) % 320 = r := ⟨_, rfl⟩
        obtain ⟨r1, r2⟩ := rem_nat k r h6 hr
        by_cases hr0 : r = 0
        · subst hr0
          have HH : Hid (halved st = true) := by
            show halved st = true
            rw [hh]
            exact decide_eq_true ⟨h6, hr⟩
          have HQ := hide (hst.2 HH.out)
          clear hh hst hr h6
          go_wp2_with (first
            | (go_at_call 13; refine (L.add hF _ hx).mono ?_; rintro e w1 ⟨he, hF2, hg⟩; replace hB := gr_below hB hg (fun n e => by cases e; exact hb); clear hg hF; have hF := hF2; clear hF2; rw [HH.out] at he; subst he)
            | (go_at_call 16; refine (L.count hF _ hx).mono ?_; rintro e w1 ⟨he, hF2, hg⟩; replace hB := gr_below hB hg (fun _ e => by cases e); clear hg hF; have hF := hF2; clear hF2; rw [HQ.out] at he; subst he))
          go_roundw
          case rel => exact ⟨k + 1, _, by omega, by go_num, HA2, hF, hB⟩
          case measure => simp [intOf]; omega
        · have hrb := nat_beq0 r hr0
          have HH : Hid (halved st = false) := by
            show halved st = false
            rw [hh]
            exact decide_eq_false fun h => hr0 (hr.symm.trans h.2)
          clear hh hst hr h6 hr0
          go_wp2_with (go_at_call 13; refine (L.add hF _ hx).mono ?_; rintro e w1 ⟨he, hF2, hg⟩; replace hB := gr_below hB hg (fun n e => by cases e; exact hb); clear hg hF; have hF := hF2; clear hF2; rw [HH.out] at he; subst he)
          go_roundw
          case rel => exact ⟨k + 1, _, by omega, by go_num, HA2, hF, hB⟩
          case measure => simp [intOf]; omega
      · have h6i : (k : Int) + 1 < 640 := by omega
        have HH : Hid (halved st = false) := by
          show halved st = false
          rw [hh]
          exact decide_eq_false fun h => h6 h.1
        clear hh hst h6
        go_wp2_with (go_at_call 13; refine (L.add hF _ hx).mono ?_; rintro e w1 ⟨he, hF2, hg⟩; replace hB := gr_below hB hg (fun n e => by cases e; exact hb); clear hg hF; have hF := hF2; clear hF2; rw [HH.out] at he; subst he)
        go_roundw
        case rel => exact ⟨k + 1, _, by omega, by go_num, HA2, hF, hB⟩
        case measure => simp [intOf]; omega
    · go_wp2
      go_ret
      exact ⟨rfl, hB⟩
set_option maxHeartbeats 2000000 in
theorem sketchHalves_out (L : SketchLib Sk) (seed : Nat) (hd : seed < 18446744073709551616) (w : World) (x : ByteArray) (n : Int) (h : 300 < x.size ∨ n < 0 ∨ 3000 < n) :
    Calls Try.prog 5 #[.int .u64 seed, .string x, .int .i64 n] w fun e w' => e = .returned (.bool true) ∧ Below w.heap.size w w' := by
  have hB : Below w.heap.size w w := Below.refl _ _
  have h' : (300 : Int) < (x.size : Int) ∨ ((x.size : Int) ≤ 300 ∧ n < 0) ∨ ((x.size : Int) ≤ 300 ∧ 0 ≤ n ∧ 3000 < n) := by omega
  clear h
  rcases h' with h | ⟨h, g⟩ | ⟨h, g, k⟩
  all_goals
    go_enter Try.func5, Try.ntmps5
    go_wp2_with (first
      | (go_at_call 8; refine (awake_any L _).mono ?_; rintro e w1 ⟨rfl, hb⟩; replace hB := Bt hB hb; clear hb)
      | (go_at_call 10; refine (L.new seed hd _).mono ?_; rintro e w3 ⟨b, rfl, -, -, hg⟩; replace hB := gr_below hB hg (fun _ e => by cases e); clear hg))
    go_ret
    exact ⟨rfl, hB⟩
theorem sketchHalves_walk (L : SketchLib Sk) (a0 : Int) (w0 : (Lit.int .u64 a0).wf = true) (x : ByteArray) (_w1 : x.size ≤ 140737488351232) (n : Int) (_w2 : (Lit.int .i64 n).wf = true) (W : World) :
    Calls Try.prog 5 #[.int .u64 a0, .string x, .int .i64 n] W fun e W' => e = .returned (.bool true) ∧ Below W.heap.size W W' := by
  obtain ⟨p0, p1⟩ := u64_wf w0
  obtain ⟨sd, rfl⟩ := Int.eq_ofNat_of_zero_le p0
  by_cases h : 300 < x.size ∨ n < 0 ∨ 3000 < n
  · exact sketchHalves_out L sd (by omega) W x n h
  · exact sketchHalves_in L sd (by omega) W x (by omega) n (by omega) (by omega)
end Go.Proofs.Ytjjmnjcgebadoaa
