/- BloomDoes returns true for every seed and all calls, and writes nothing that was there. Conditions: the contracts of package bloom. -/
import Derived.Test.YtidnjcoljfccdaaBloomRefAdd
import Derived.Deep.RegionWith
import Derived.Deep.CutBlock
import Derived.Deep.CutRange
namespace Go.Proofs.Ytidnjcoljfccdaa
open Go.RowKit
variable {Fil : World → Nat → Nat → List Nat → Prop}

theorem RFil.keep {n0 c sd : Nat} {w w' : World} {S : List Nat} {v : Value} {row : Option Nat} (h : RFil n0 w c sd S v) (hg : w.grownBy w' row) (hc : row ≠ some c) (hv : v.ownBlock = none ∨ v.ownBlock ≠ row) : RFil n0 w' c sd S v :=
  ⟨(hg.block c h.lt (fun e => hc e.symm)).trans h.1, h.2.kept hg hv⟩
theorem gr_drew (w : World) (row : Option Nat) : w.grownBy w.drew row := ⟨rfl, rfl, rfl, Nat.le_refl _, fun _ _ _ => rfl⟩
/-- The two filters, side by side: the same places, no memory shared. -/
structure Both (Fil : World → Nat → Nat → List Nat → Prop) (w0 w : World) (b c sd : Nat) (S : List Nat) (v : Value) : Prop where
  fil : Fil w b sd S
  ref : RFil w0.heap.size w c sd S v
  vc : v.ownBlock ≠ some c
  vb : v.ownBlock ≠ some b
  bc : b ≠ c
  b0 : w0.heap.size ≤ b
  c0 : w0.heap.size ≤ c
  below : Below w0.heap.size w0 w
theorem vfresh {n0 c sd : Nat} {w : World} {S : List Nat} {v : Value} (h : RFil n0 w c sd S v) (k : Nat) (hk : v.ownBlock = some k) : n0 ≤ k ∧ k < w.heap.size := h.2.lt k hk

theorem Both.step {w0 w w' : World} {b c sd : Nat} {S : List Nat} {v : Value} (h : Both Fil w0 w b c sd S v) (hF : Fil w' b sd S) (hg : w.grownBy w' none) : Both Fil w0 w' b c sd S v :=
  ⟨hF, h.ref.keep hg (by simp) (by cases hv : v.ownBlock <;> simp), h.vc, h.vb, h.bc, h.b0, h.c0, gr_below h.below hg (fun _ e => by cases e)⟩
theorem Both.drew (L : BloomLib Fil) {w0 w : World} {b c sd : Nat} {S : List Nat} {v : Value} (h : Both Fil w0 w b c sd S v) : Both Fil w0 w.drew b c sd S v := h.step (L.kept h.fil (gr_drew w none) (by simp)) (gr_drew w none)
theorem Both.ref1 {w0 w w' : World} {b c sd : Nat} {S : List Nat} {v : Value} (h : Both Fil w0 w b c sd S v) (hg : w.grownBy w' (some b)) : RFil w0.heap.size w' c sd S v :=
  h.ref.keep hg (fun e => h.bc (by cases e; rfl)) (.inr h.vb)
theorem Both.add (L : BloomLib Fil) {w0 w w' w'' : World} {b c sd : Nat} {S T : List Nat} {v v' : Value} (h : Both Fil w0 w b c sd S v) (hg : w.grownBy w' (some b)) (hF : Fil w' b sd T)
    (hR : RFil w0.heap.size w'' c sd T v') (hc : v'.ownBlock ≠ some c) (hG : Gr (fun k => k = c ∨ v.ownBlock = some k) w' w'') (hf : ∀ k, v'.ownBlock = some k → v.ownBlock = some k ∨ w'.heap.size ≤ k) : Both Fil w0 w'' b c sd T v' := by
  have hlt := L.lt hF
  refine ⟨L.keep hF (hG.block b hlt (fun e => e.elim h.bc h.vb)), hR, hc, fun e => (hf b e).elim h.vb (fun e => by omega), h.bc, h.b0, h.c0, ?_⟩
  refine Gr.below (gr_below h.below hg (fun n e => by cases e; exact h.b0)) hG (fun k hk => hk.elim (fun e => by rw [e]; exact h.c0) (fun e => (vfresh h.ref k e).1))

theorem Both.clear (L : BloomLib Fil) {w0 w w' : World} {b c sd : Nat} {S : List Nat} {v : Value} (h : Both Fil w0 w b c sd S v) (hg : w.grownBy w' (some b)) (hF : Fil w' b sd []) : Both Fil w0 (w'.setCell ⟨c, 1, none⟩ (.slice none 0 0)) b c sd [] (.slice none 0 0) := by
  have hR := h.ref1 hg
  refine ⟨L.keep hF (heap_setCell_other _ _ _ _ h.bc), ⟨pair_set hR.1 _, World.ownsRow_nil _ _ _ _⟩, by simp [Value.ownBlock], by simp [Value.ownBlock], h.bc, h.b0, h.c0, ?_⟩
  exact (gr_below h.below hg (fun n e => by cases e; exact h.b0)).setCell (p := ⟨c, 1, none⟩) h.c0 _
theorem Both.copy (L : BloomLib Fil) {w0 w w1 w2 w3 : World} {b b' c sd : Nat} {S : List Nat} {v : Value} (h : Both Fil w0 w b c sd S v) (hb : w.heap.size ≤ b') (hF : Fil w1 b' sd S) (h1 : w.grownBy w1 none) (h2 : w1.grownBy w2 (some b)) (h3 : w2.grownBy w3 (some b)) : Both Fil w0 w3 b' c sd S v := by
  have hlt := L.lt h.fil
  have hct := h.ref.lt
  have hne : some b ≠ some b' := fun e => by cases e; omega
  have r1 : RFil w0.heap.size w1 c sd S v := h.ref.keep h1 (by simp) (by cases hv : v.ownBlock <;> simp)
  have r2 := r1.keep h2 (fun e => h.bc (by cases e; rfl)) (.inr h.vb)
  have r3 := r2.keep h3 (fun e => h.bc (by cases e; rfl)) (.inr h.vb)
  refine ⟨L.kept (L.kept hF h2 hne) h3 hne, r3, h.vc, fun e => ?_, by omega, by have := h.b0; omega, h.c0, ?_⟩
  · have := (vfresh h.ref b' e).2
    omega
  · refine gr_below (gr_below (gr_below h.below h1 (fun _ e => by cases e)) h2 (fun n e => by cases e; exact h.b0)) h3 (fun n e => by cases e; exact h.b0)

set_option maxRecDepth 100000 in
set_option maxHeartbeats 4000000 in
theorem bloomDoes_in (L : BloomLib Fil) (seed : Nat) (hd : seed < 18446744073709551616) {w : World} {a : Option Addr} {len cap : Nat} {os : List (Int × ByteArray)} (h : OpsAt w a len cap os) (hS : Short os 150) :
    Calls Try.prog 3 #[.int .u64 seed, .slice a len cap] w fun e w' => e = .returned (.bool true) ∧ Below w.heap.size w w' := by
  have hl := h.len_
  have hlen : len ≤ 150 := by have := hS.1; omega
  have HS := hide hS
  have hB : Below w.heap.size w w := Below.refl _ _
  clear hS
  go_enter Try.func3, Try.ntmps3
  go_wp2_with (first
    | (go_at_call 8; refine (awake_any L _).mono ?_; rintro e w1 ⟨rfl, hb⟩; replace hB := Bt hB hb; clear hb)
    | (go_at_call 9; refine (short_any (h.on hB) 150 (by decide)).mono ?_; rintro e w2 ⟨r, rfl, hr, rfl⟩; obtain rfl : r = true := hr.2 HS.out; clear hr)
    | (go_at_call 10; refine (L.new seed hd _).mono ?_; rintro e w3 ⟨b, rfl, hb, hF, hg⟩; replace hb := Nat.le_trans hB.size hb; replace hB := gr_below hB hg (fun _ e => by cases e); clear hg))
  go_loopw [7, 9] (fun f i wr => ∃ (k b : Nat) (S : List Nat) (v : Value), k ≤ len ∧ i = .int .i64 k ∧ f = .pointer (some ⟨b, 0, none⟩) ∧ Both Fil w wr b w3.heap.size seed S v) (fun _ i _ => len - (intOf i).toNat)
  case atStart =>
    have hlt := L.lt hF
    have hg := World.grownBy_alloc w3 (.cells #[.int .u64 seed, .slice none 0 0] 31) none
    refine ⟨0, b, [], .slice none 0 0, Nat.zero_le _, rfl, rfl, L.kept hF hg (by simp), ⟨heap_alloc_new _ _, World.ownsRow_nil _ _ _ _⟩, by simp [Value.ownBlock], by simp [Value.ownBlock], by omega, hb, hB.size, gr_below hB hg (fun _ e => by cases e)⟩
  case round =>
    clear hF hB
    obtain ⟨k, b, S, v, hk, rfl, rfl, hH⟩ := hrel
    by_cases hlt : k < len
    · obtain ⟨ca, off, rfl, hc0, hcnum, hcell⟩ := h.at k (by omega)
      have HSz := hide (HS.out.2 _ (List.getElem_mem (show k < os.length by omega)))
      obtain ⟨q, hq⟩ : ∃ q, q = (os[k]'(by omega)).1 := ⟨_, rfl⟩
      obtain ⟨s, hs⟩ : ∃ s, s = (os[k]'(by omega)).2 := ⟨_, rfl⟩
      rw [← hs] at hcell HSz
      rw [← hq] at hcnum
      have hsz := HSz.out
      have HC := hide hcell
      have HCn := hide hcnum
      clear hs hq hcell hcnum
      obtain ⟨c, hc⟩ : ∃ c, w3.heap.size = c := ⟨_, rfl⟩
      rw [hc] at hH
      have hck : wr.cell? ⟨ca, off + k * 2, none⟩ = some (.int .i64 q) := (hH.below.cell (p := ⟨ca, off + k * 2, none⟩) hc0).trans HCn.out
      have hct : wr.cell? ⟨ca, off + k * 2 + 1, none⟩ = some (.string s) := (hH.below.cell (p := ⟨ca, off + k * 2 + 1, none⟩) hc0).trans HC.out
      have hset := hH.ref.set
      rw [hc]
      go_upto_block 2 with fail
      go_cut [7, 10, 11] from 35 to 109 (fun f sm _old wx => ∃ (b : Nat) (S : List Nat) (v : Value), f = .pointer (some ⟨b, 0, none⟩) ∧ sm = .bool true ∧ Both Fil w wx b c seed S v)
      case first =>
        by_cases q0 : q = 0
        · subst q0
          have hHd := Both.drew L hH
          obtain ⟨r, hr⟩ : ∃ r, hasS S (pls seed s.data.toList) = r := ⟨_, rfl⟩
          have HR := hide hr
          have hl5 := good_len (L.good hH.fil).1
          clear hr
          go_wp2_with fail
          go_region_with (first
            | (go_at_call 11; refine (L.add hHd.fil s hsz).mono ?_; rintro e w5 ⟨he, hF5, hg5⟩; have hR5 := hHd.ref1 hg5; have hB5 := gr_below hHd.below hg5 (fun n e => by cases e; exact hHd.b0); have hct5 := (hB5.cell (p := ⟨ca, off + k * 2 + 1, none⟩) hc0).trans HC.out; rw [HR.out] at he; subst he)
            | (go_at_call 12; refine (radd_any hR5 hHd.vc hB5.size (by omega) s (by omega)).mono ?_; rintro e w6 ⟨he, v6, hR6, hvc6, hg6, hf6⟩; have hH6 := Both.add L hHd hg5 hF5 hR6 hvc6 hg6 hf6; rw [HR.out] at he; subst he))
          all_goals (go_wp2_with fail; go_meet; exact ⟨b, _, _, rfl, by simp, hH6⟩)
        · by_cases q1 : q = 1
          · subst q1
            have hHd := Both.drew L hH
            obtain ⟨r, hr⟩ : ∃ r, hasS S (pls seed s.data.toList) = r := ⟨_, rfl⟩
            have HR := hide hr
            have hl5 := good_len (L.good hH.fil).1
            clear hr q0
            go_wp2_with fail
            go_region_with (first
              | (go_at_call 13; refine (L.has hHd.fil s hsz).mono ?_; rintro e w5 ⟨he, hF5, hg5⟩; have hH5 := hHd.step hF5 hg5; have hct5 := (hH5.below.cell (p := ⟨ca, off + k * 2 + 1, none⟩) hc0).trans HC.out; rw [HR.out] at he; subst he)
              | (go_at_call 14; refine (rhas_any hH5.ref (by omega) s (by omega)).mono ?_; rintro e w6 ⟨he, rfl⟩; rw [HR.out] at he; subst he))
            all_goals (go_wp2_with fail; go_meet; exact ⟨b, _, _, rfl, by simp, hH5⟩)
          · by_cases q2 : q = 2
            · subst q2
              clear q0 q1
              go_wp2_with (go_at_call 15; refine (L.clear hH.fil).mono ?_; rintro e w5 ⟨⟨v9, rfl⟩, hF5, hg5⟩; have hR5 := hH.ref1 hg5; have hset5 := hR5.set; have hfr5 := hR5.free)
              go_meet
              exact ⟨b, [], _, rfl, rfl, hH.clear L hg5 hF5⟩
            · by_cases q3 : q = 3
              · subst q3
                clear q0 q1 q2
                go_wp2_with (first
                  | (go_at_call 16; refine (L.copy hH.fil).mono ?_; rintro e w5 ⟨b5, rfl, hb5, hF5, hg5⟩; have hO5 := L.kept hH.fil hg5 (by simp))
                  | (go_at_call 11; refine (L.add hO5 _ (by decide)).mono ?_; rintro e w6 ⟨rfl, hO6, hg6⟩)
                  | (go_at_call 15; refine (L.clear hO6).mono ?_; rintro e w7 ⟨⟨v9, rfl⟩, hO7, hg7⟩))
                go_meet
                exact ⟨b5, S, v, rfl, rfl, hH.copy L hb5 hF5 hg5 hg6 hg7⟩
              · have e0 : (q == 0) = false := beq_eq_false_iff_ne.2 q0
                have e1 : (q == 1) = false := beq_eq_false_iff_ne.2 q1
                have e2 : (q == 2) = false := beq_eq_false_iff_ne.2 q2
                have e3 : (q == 3) = false := beq_eq_false_iff_ne.2 q3
                clear q0 q1 q2 q3
                go_wp2_with fail
                go_meet
                exact ⟨b, S, v, rfl, rfl, hH⟩
      case rest =>
        clear hset hck hct hH
        obtain ⟨b, S, v, rfl, rfl, hH⟩ := hcut
        have hset := hH.ref.set
        obtain ⟨sa, scap, rfl, -⟩ := own_slice hH.ref.2
        have hHd := Both.drew L hH
        obtain ⟨n, hn⟩ : ∃ n, S.length = n := ⟨_, rfl⟩
        have HN := hide hn
        rw [hn] at hset
        clear hn
        go_wp2
        go_region_with (go_at_call 17; refine (L.ones hHd.fil).mono ?_; rintro e w9 ⟨he, hF9, hg9⟩; have hH9 := hHd.step hF9 hg9; have hset9 := hH9.ref.set; rw [HN.out] at he hset9; subst he)
        all_goals go_wp2
        all_goals go_roundw
        all_goals first
          | exact ⟨k + 1, b, S, _, by omega, by go_num, rfl, hH9⟩
          | (simp [intOf]; omega)
    · have hB := hH.below
      go_wp2
      go_ret
      exact ⟨rfl, hB⟩
set_option maxHeartbeats 2000000 in
theorem bloomDoes_out (L : BloomLib Fil) (seed : Nat) (hd : seed < 18446744073709551616) {w : World} {a : Option Addr} {len cap : Nat} {os : List (Int × ByteArray)} (h : OpsAt w a len cap os) (hS : ¬ Short os 150) :
    Calls Try.prog 3 #[.int .u64 seed, .slice a len cap] w fun e w' => e = .returned (.bool true) ∧ Below w.heap.size w w' := by
  have HS := hide hS
  have hB : Below w.heap.size w w := Below.refl _ _
  clear hS
  go_enter Try.func3, Try.ntmps3
  go_wp2_with (first
    | (go_at_call 8; refine (awake_any L _).mono ?_; rintro e w1 ⟨rfl, hb⟩; replace hB := Bt hB hb; clear hb)
    | (go_at_call 9; refine (short_any (h.on hB) 150 (by decide)).mono ?_; rintro e w2 ⟨r, rfl, hr, rfl⟩; obtain rfl : r = false := Bool.eq_false_iff.2 (fun e => HS.out (hr.1 e)); clear hr)
    | (go_at_call 10; refine (L.new seed hd _).mono ?_; rintro e w3 ⟨b, rfl, -, -, hg⟩; replace hB := gr_below hB hg (fun _ e => by cases e); clear hg))
  go_ret
  exact ⟨rfl, hB⟩
theorem bloomDoes_walk (L : BloomLib Fil) (W : World) (a0 : Int) (w0 : (Lit.int .u64 a0).wf = true) (a1 : Option Addr) (len1 cap1 : Nat) (z1 : List (Int × ByteArray)) (w1 : OpsAt W a1 len1 cap1 z1) :
    Calls Try.prog 3 #[.int .u64 a0, .slice a1 len1 cap1] W fun e W' => e = .returned (.bool true) ∧ Below W.heap.size W W' := by
  obtain ⟨p0, p1⟩ := u64_wf w0
  obtain ⟨sd, rfl⟩ := Int.eq_ofNat_of_zero_le p0
  by_cases h : Short z1 150
  · exact bloomDoes_in L sd (by omega) w1 h
  · exact bloomDoes_out L sd (by omega) w1 h
end Go.Proofs.Ytidnjcoljfccdaa
