/- SketchDoes returns true for every seed and all calls, and writes nothing that was there. Conditions: the contracts of package sketch. -/
import Derived.Test.YtjjmnjcgebadoaaSketchRefAdd
import Derived.Test.YtjjmnjcgebadoaaSketchLib
import Derived.Deep.RegionWith
import Derived.Deep.CutBlock
import Derived.Deep.CutRange
import Derived.Test.YtjjmnjcgebadoaaRegionClass
namespace Go.Proofs.Ytjjmnjcgebadoaa
open Go.RowKit
variable {Sk : World → Nat → Nat → St → Prop}

theorem RSk.lt {w : World} {c g sd : Nat} {st : St} (h : RSk w c g sd st) : c < w.heap.size ∧ g < w.heap.size := ⟨(Array.getElem?_eq_some_iff.1 h.head).1, (Array.getElem?_eq_some_iff.1 h.row).1⟩
theorem RSk.keep {w w' : World} {c g sd : Nat} {st : St} {row : Option Nat} (h : RSk w c g sd st) (hg : w.grownBy w' row) (hc : row ≠ some c) (hr : row ≠ some g) : RSk w' c g sd st :=
  ⟨(hg.block c h.lt.1 (fun e => hc e.symm)).trans h.head, (hg.block g h.lt.2 (fun e => hr e.symm)).trans h.row, h.len, h.ne⟩
theorem gr_drewN0 (w : World) (k : Nat) (row : Option Nat) : w.grownBy (w.drewN k) row := ⟨rfl, rfl, rfl, Nat.le_refl _, fun _ _ _ => rfl⟩
theorem gr_drew (w : World) (row : Option Nat) : w.grownBy w.drew row := ⟨rfl, rfl, rfl, Nat.le_refl _, fun _ _ _ => rfl⟩
/-- The two sketches, side by side: the same counters, no memory shared. -/
structure Both (Sk : World → Nat → Nat → St → Prop) (w0 w : World) (b c g sd : Nat) (st : St) : Prop where
  sk : Sk w b sd st
  ref : RSk w c g sd st
  bc : b ≠ c
  bg : b ≠ g
  b0 : w0.heap.size ≤ b
  c0 : w0.heap.size ≤ c
  g0 : w0.heap.size ≤ g
  below : Below w0.heap.size w0 w
theorem Both.step {w0 w w' : World} {b c g sd : Nat} {st : St} (h : Both Sk w0 w b c g sd st) (hF : Sk w' b sd st) (hg : w.grownBy w' none) : Both Sk w0 w' b c g sd st :=
  ⟨hF, h.ref.keep hg (by simp) (by simp), h.bc, h.bg, h.b0, h.c0, h.g0, gr_below h.below hg (fun _ e => by cases e)⟩
theorem Both.drew (L : SketchLib Sk) {w0 w : World} {b c g sd : Nat} {st : St} (h : Both Sk w0 w b c g sd st) : Both Sk w0 w.drew b c g sd st := h.step (L.kept h.sk (gr_drew w none) (by simp)) (gr_drew w none)
theorem Both.drewN (L : SketchLib Sk) {w0 w : World} {b c g sd : Nat} {st : St} (h : Both Sk w0 w b c g sd st) (k : Nat) : Both Sk w0 (w.drewN k) b c g sd st := h.step (L.kept h.sk (gr_drewN0 w k none) (by simp)) (gr_drewN0 w k none)
theorem Both.ref1 {w0 w w' : World} {b c g sd : Nat} {st : St} (h : Both Sk w0 w b c g sd st) (hg : w.grownBy w' (some b)) : RSk w' c g sd st :=
  h.ref.keep hg (fun e => h.bc (by cases e; rfl)) (fun e => h.bg (by cases e; rfl))
theorem Both.add (L : SketchLib Sk) {w0 w w' w'' : World} {b c g sd : Nat} {st st' : St} (h : Both Sk w0 w b c g sd st) (hg : w.grownBy w' (some b)) (hF : Sk w' b sd st') (hR : RSk w'' c g sd st') (hG : Gr (Own2 c g) w' w'') : Both Sk w0 w'' b c g sd st' :=
  ⟨L.keep hF (hG.block b (L.lt hF) (fun e => e.elim h.bc h.bg)), hR, h.bc, h.bg, h.b0, h.c0, h.g0, Gr.below (gr_below h.below hg (fun n e => by cases e; exact h.b0)) hG (fun k hk => hk.elim (fun e => by rw [e]; exact h.c0) (fun e => by rw [e]; exact h.g0))⟩
theorem Both.copy (L : SketchLib Sk) {w0 w w1 w2 : World} {b b' c g sd : Nat} {st : St} (h : Both Sk w0 w b c g sd st) (hb : w.heap.size ≤ b') (hF : Sk w1 b' sd st) (h1 : w.grownBy w1 none) (h2 : w1.grownBy w2 (some b)) : Both Sk w0 w2 b' c g sd st := by
  have hlt := L.lt h.sk
  have hr := h.ref.lt
  have hs := h.below.size
  have hne : some b ≠ some b' := fun e => by cases e; omega
  have r1 : RSk w1 c g sd st := h.ref.keep h1 (by simp) (by simp)
  have r2 := r1.keep h2 (fun e => h.bc (by cases e; rfl)) (fun e => h.bg (by cases e; rfl))
  exact ⟨L.kept hF h2 hne, r2, by omega, by omega, by omega, h.c0, h.g0, gr_below (gr_below h.below h1 (fun _ e => by cases e)) h2 (fun n e => by cases e; exact h.b0)⟩

set_option maxRecDepth 100000 in
set_option maxHeartbeats 4000000 in
theorem sketchDoes_in (L : SketchLib Sk) (seed : Nat) (hd : seed < 18446744073709551616) {w : World} {a : Option Addr} {len cap : Nat} {os : List Op} (h : OpsAt w a len cap os) (hS : Short os) :
    Calls Try.prog 3 #[.int .u64 seed, .slice a len cap] w fun e w' => e = .returned (.bool true) ∧ Below w.heap.size w w' := by
  have hl := h.len_
  have hlen : len ≤ 60 := by have := hS.1; omega
  have HS := hide hS
  have hB : Below w.heap.size w w := Below.refl _ _
  clear hS
  go_enter Try.func3, Try.ntmps3
  go_wp2_with (first
    | (go_at_call 8; refine (awake_any L _).mono ?_; rintro e w1 ⟨rfl, hb⟩; replace hB := Bt hB hb; clear hb)
    | (go_at_call 9; refine (short_any (h.on hB)).mono ?_; rintro e w2 ⟨r, rfl, hr, rfl⟩; obtain rfl : r = true := hr.2 HS.out; clear hr)
    | (go_at_call 10; refine (L.new seed hd _).mono ?_; rintro e w3 ⟨b, rfl, hb, hF, hg⟩; replace hb := Nat.le_trans hB.size hb; replace hB := gr_below hB hg (fun _ e => by cases e); clear hg)
    | (go_at_call 11; refine (rnew_any seed _).mono ?_; rintro e w4 ⟨rfl, hR, hg⟩; have hb3 := L.lt hF; have hH : Both Sk w w4 b (w3.heap.size + 1) w3.heap.size seed fresh := ⟨L.kept hF hg (by simp), hR, (by omega), (by omega), hb, (by have := hB.size; omega), hB.size, gr_below hB hg (fun _ e => by cases e)⟩; clear hg hR hF hb3))
  obtain ⟨g, hg⟩ : ∃ g, w3.heap.size = g := ⟨_, rfl⟩
  rw [hg] at hH ⊢
  clear hg hB hb
  go_loopw [7, 9] (fun f i wr => ∃ (k b : Nat) (st : St), k ≤ len ∧ i = .int .i64 k ∧ f = .pointer (some ⟨b, 0, none⟩) ∧ Both Sk w wr b (g + 1) g seed st) (fun _ i _ => len - (intOf i).toNat)
  case atStart => exact ⟨0, b, fresh, Nat.zero_le _, rfl, rfl, hH⟩
  case round =>
    clear hH
    obtain ⟨k, b, st, hk, rfl, rfl, hH⟩ := hrel
    by_cases hlt : k < len
    · obtain ⟨ca, off, kd, tm, s, rfl, hcell, he, hkd, htm⟩ := h.at k (by omega)
      have hsz := (short_at HS.out (show k < os.length by omega) he).1
      have ht1 := (short_at HS.out (show k < os.length by omega) he).2
      have hsz2 : s.size ≤ 140737488351232 := Nat.le_trans hsz (by decide)
      clear he
      have hcq := hcell.on (Nat.le_refl _) hH.below
      have hcn := hcq.num
      clear hcq
      go_upto_if 45 with fail
      go_cut [7, 10] from 34 to 108 (fun f _old wx => ∃ (b : Nat) (st : St), f = .pointer (some ⟨b, 0, none⟩) ∧ Both Sk w wx b (g + 1) g seed st)
      case first =>
        by_cases k2 : kd = 2
        · subst k2
          go_wp2_with (first
            | (go_at_call 12; refine (L.copy hH.sk).mono ?_; rintro e w5 ⟨b5, rfl, hb5, hF5, hg5⟩; have hO5 := L.kept hH.sk hg5 (by simp))
            | (go_at_call 13; refine (L.add hO5 _ (by decide)).mono ?_; rintro e w6 ⟨rfl, hO6, hg6⟩))
          go_meet
          exact ⟨b5, st, rfl, hH.copy L hb5 hF5 hg5 hg6⟩
        · have e2 : (kd == 2) = false := beq_eq_false_iff_ne.2 k2
          clear k2
          go_wp2_with fail
          go_meet
          exact ⟨b, st, rfl, hH⟩
      case rest =>
        clear hcn hH
        obtain ⟨b, st, rfl, hH⟩ := hcut
        go_wp2
        go_loopw [11] (fun i wr => ∃ (j : Nat) (st : St), (j = 0 ∨ (j : Int) ≤ tm) ∧ i = .int .i64 j ∧ Both Sk w wr b (g + 1) g seed st) (fun i _ => tm.toNat - (intOf i).toNat)
        case atStart => exact ⟨0, st, .inl rfl, rfl, hH⟩
        case round =>
          clear hH
          obtain ⟨j, st, hj, rfl, hH⟩ := hrel
          have hcq := hcell.on (Nat.le_refl _) hH.below
          have hct := hcq.txt
          have hcm := hcq.tms
          have hcn := hcq.num
          clear hcq
          by_cases hgo : (j : Int) < tm ∧ kd = 0
          · obtain ⟨hjt, rfl⟩ := hgo
            have hgood := (L.good hH.sk).1
            have hHd := Both.drew L hH
            obtain ⟨r, hr⟩ : ∃ r, halved st = r := ⟨_, rfl⟩
            have HR := hide hr
            clear hr
            go_upto_region 19 with fail
            go_cut [84] from 53 to 84 (fun q wx => q = .bool false ∧ Both Sk w wx b (g + 1) g seed (addK seed st s.data.toList))
            case first =>
              go_region_with (first
                | (go_at_call 13; refine (L.add hHd.sk s hsz).mono ?_; rintro e w5 ⟨he, hF5, hg5⟩; have hR5 := hHd.ref1 hg5; have hB5 := gr_below hHd.below hg5 (fun n e => by cases e; exact hHd.b0); have hct5 := (hcell.on (Nat.le_refl _) hB5).txt; rw [HR.out] at he; subst he)
                | (go_at_call 14; refine (raddK_any hR5 hgood s hsz2).mono ?_; rintro e w6 ⟨he, hR6, hg6⟩; have hH6 := Both.add L hHd hg5 hF5 hR6 hg6; rw [HR.out] at he; subst he))
              all_goals (go_wp2_with fail; go_meet; exact ⟨by simp, hH6⟩)
            case rest =>
              obtain ⟨rfl, hH6⟩ := hcut
              clear hHd hH hct hcm hcn hgood HR
              go_wp2
              go_roundw
              case rel => exact ⟨j + 1, _, .inr (by omega), by go_num, hH6⟩
              case measure => simp [intOf]; omega
          · have hstop : (tm ≤ (j : Int)) ∨ ((j : Int) < tm ∧ (kd == 0) = false) := by
              by_cases h1 : (j : Int) < tm
              · exact .inr ⟨h1, beq_eq_false_iff_ne.2 fun h2 => hgo ⟨h1, h2⟩⟩
              · exact .inl (by omega)
            clear hgo
            have hHd := Both.drew L hH
            have hage := hHd.ref.age
            obtain ⟨n, hn⟩ : ∃ n, st.2 = n := ⟨_, rfl⟩
            have HN := hide hn
            rw [hn] at hage
            obtain ⟨m, hm⟩ : ∃ m, cnt st.1 (plcs seed s.data.toList) = m := ⟨_, rfl⟩
            have HM := hide hm
            clear hn hm
            rcases hstop with hst | ⟨hst, hkb⟩
            · go_upto_region 21 with fail
              go_cut [108] from 34 to 108 (fun q wx => q = .bool false ∧ Both Sk w wx b (g + 1) g seed st)
              case first =>
                refine region_class (C := fun w' => Both Sk w w' b (g + 1) g seed st) 4 (by kernel_rfl) (by kernel_rfl) hHd ?_
                gi_big_quiet_step ((intro _; rfl))
                refine class_step (a' := ?fr1) (.int .i64 n) rfl ?val1 ?put1 ?next1
                case val1 =>
                  intro w' hC
                  go_simp
                  exact callsIn_wide.2 ((L.age hC.sk).mono fun _ _ h => ⟨by rw [h.1, HN.out], hC.step h.2.1 h.2.2⟩)
                case put1 => simp only [Act.put, List.setIfInBounds_toArray, List.set_cons_succ, List.set_cons_zero]; rfl
                iterate 3 (gi_big_quiet_step ((intro _; rfl)))
                refine class_step (a' := ?fr2) (.int .i64 n) rfl ?val2 ?put2 ?next2
                case val2 =>
                  intro w' hC
                  have hage := hC.ref.age
                  rw [HN.out] at hage
                  go_simp
                case put2 => simp only [Act.put, List.setIfInBounds_toArray, List.set_cons_succ, List.set_cons_zero]; rfl
                iterate 7 (gi_big_quiet_step ((intro _; rfl)))
                refine class_step (a' := ?fr3) (.string s) rfl ?val3 ?put3 ?next3
                case val3 =>
                  intro w' hC
                  have hct := (hcell.on (Nat.le_refl _) hC.below).txt
                  go_simp
                case put3 => simp only [Act.put, List.setIfInBounds_toArray, List.set_cons_succ, List.set_cons_zero]; rfl
                refine class_step (a' := ?fr4) (.int .i64 m) rfl ?val4 ?put4 ?next4
                case val4 =>
                  intro w' hC
                  go_simp
                  exact callsIn_wide.2 ((L.count hC.sk s hsz).mono fun _ _ h => ⟨by rw [h.1, HM.out], hC.step h.2.1 h.2.2⟩)
                case put4 => simp only [Act.put, List.setIfInBounds_toArray, List.set_cons_succ, List.set_cons_zero]; rfl
                iterate 5 (gi_big_quiet_step ((intro _; rfl)))
                refine class_step (a' := ?fr5) (.string s) rfl ?val5 ?put5 ?next5
                case val5 =>
                  intro w' hC
                  have hct := (hcell.on (Nat.le_refl _) hC.below).txt
                  go_simp
                case put5 => simp only [Act.put, List.setIfInBounds_toArray, List.set_cons_succ, List.set_cons_zero]; rfl
                refine class_step (a' := ?fr6) (.int .i64 m) rfl ?val6 ?put6 ?next6
                case val6 =>
                  intro w' hC
                  go_simp
                  exact callsIn_wide.2 ((rcount_any hC.ref s hsz2).mono fun _ _ ⟨h1, d, h2⟩ => ⟨by rw [h1, HM.out], by rw [h2]; exact Both.drewN L hC d⟩)
                case put6 => simp only [Act.put, List.setIfInBounds_toArray, List.set_cons_succ, List.set_cons_zero]; rfl
                iterate 2 (gi_big_quiet_step ((intro _; rfl)))
                refine wpQuietIn_nil ?_
                intro w' hC
                go_wp2_with fail
                go_meet
                exact ⟨by simp, hC⟩
              case rest =>
                obtain ⟨rfl, hH7⟩ := hcut
                clear hHd hH hct hcm hcn hage HN HM
                go_wp2
                go_roundw
                case rel => exact ⟨k + 1, b, st, by omega, by go_num, rfl, hH7⟩
                case measure => simp [intOf]; omega
            · go_upto_region 21 with fail
              go_cut [108] from 34 to 108 (fun q wx => q = .bool false ∧ Both Sk w wx b (g + 1) g seed st)
              case first =>
                refine region_class (C := fun w' => Both Sk w w' b (g + 1) g seed st) 4 (by kernel_rfl) (by kernel_rfl) hHd ?_
                gi_big_quiet_step ((intro _; rfl))
                refine class_step (a' := ?fr7) (.int .i64 n) rfl ?val7 ?put7 ?next7
                case val7 =>
                  intro w' hC
                  go_simp
                  exact callsIn_wide.2 ((L.age hC.sk).mono fun _ _ h => ⟨by rw [h.1, HN.out], hC.step h.2.1 h.2.2⟩)
                case put7 => simp only [Act.put, List.setIfInBounds_toArray, List.set_cons_succ, List.set_cons_zero]; rfl
                iterate 3 (gi_big_quiet_step ((intro _; rfl)))
                refine class_step (a' := ?fr8) (.int .i64 n) rfl ?val8 ?put8 ?next8
                case val8 =>
                  intro w' hC
                  have hage := hC.ref.age
                  rw [HN.out] at hage
                  go_simp
                case put8 => simp only [Act.put, List.setIfInBounds_toArray, List.set_cons_succ, List.set_cons_zero]; rfl
                iterate 7 (gi_big_quiet_step ((intro _; rfl)))
                refine class_step (a' := ?fr9) (.string s) rfl ?val9 ?put9 ?next9
                case val9 =>
                  intro w' hC
                  have hct := (hcell.on (Nat.le_refl _) hC.below).txt
                  go_simp
                case put9 => simp only [Act.put, List.setIfInBounds_toArray, List.set_cons_succ, List.set_cons_zero]; rfl
                refine class_step (a' := ?fr10) (.int .i64 m) rfl ?val10 ?put10 ?next10
                case val10 =>
                  intro w' hC
                  go_simp
                  exact callsIn_wide.2 ((L.count hC.sk s hsz).mono fun _ _ h => ⟨by rw [h.1, HM.out], hC.step h.2.1 h.2.2⟩)
                case put10 => simp only [Act.put, List.setIfInBounds_toArray, List.set_cons_succ, List.set_cons_zero]; rfl
                iterate 5 (gi_big_quiet_step ((intro _; rfl)))
                refine class_step (a' := ?fr11) (.string s) rfl ?val11 ?put11 ?next11
                case val11 =>
                  intro w' hC
                  have hct := (hcell.on (Nat.le_refl _) hC.below).txt
                  go_simp
                case put11 => simp only [Act.put, List.setIfInBounds_toArray, List.set_cons_succ, List.set_cons_zero]; rfl
                refine class_step (a' := ?fr12) (.int .i64 m) rfl ?val12 ?put12 ?next12
                case val12 =>
                  intro w' hC
                  go_simp
                  exact callsIn_wide.2 ((rcount_any hC.ref s hsz2).mono fun _ _ ⟨h1, d, h2⟩ => ⟨by rw [h1, HM.out], by rw [h2]; exact Both.drewN L hC d⟩)
                case put12 => simp only [Act.put, List.setIfInBounds_toArray, List.set_cons_succ, List.set_cons_zero]; rfl
                iterate 2 (gi_big_quiet_step ((intro _; rfl)))
                refine wpQuietIn_nil ?_
                intro w' hC
                go_wp2_with fail
                go_meet
                exact ⟨by simp, hC⟩
              case rest =>
                obtain ⟨rfl, hH7⟩ := hcut
                clear hHd hH hct hcm hcn hage HN HM
                go_wp2
                go_roundw
                case rel => exact ⟨k + 1, b, st, by omega, by go_num, rfl, hH7⟩
                case measure => simp [intOf]; omega
    · have hB := hH.below
      go_wp2
      go_ret
      exact ⟨rfl, hB⟩
set_option maxHeartbeats 2000000 in
theorem sketchDoes_out (L : SketchLib Sk) (seed : Nat) (hd : seed < 18446744073709551616) {w : World} {a : Option Addr} {len cap : Nat} {os : List Op} (h : OpsAt w a len cap os) (hS : ¬ Short os) :
    Calls Try.prog 3 #[.int .u64 seed, .slice a len cap] w fun e w' => e = .returned (.bool true) ∧ Below w.heap.size w w' := by
  have HS := hide hS
  have hB : Below w.heap.size w w := Below.refl _ _
  clear hS
  go_enter Try.func3, Try.ntmps3
  go_wp2_with (first
    | (go_at_call 8; refine (awake_any L _).mono ?_; rintro e w1 ⟨rfl, hb⟩; replace hB := Bt hB hb; clear hb)
    | (go_at_call 9; refine (short_any (h.on hB)).mono ?_; rintro e w2 ⟨r, rfl, hr, rfl⟩; obtain rfl : r = false := Bool.eq_false_iff.2 (fun e => HS.out (hr.1 e)); clear hr)
    | (go_at_call 10; refine (L.new seed hd _).mono ?_; rintro e w3 ⟨b, rfl, -, -, hg⟩; replace hB := gr_below hB hg (fun _ e => by cases e); clear hg))
  go_ret
  exact ⟨rfl, hB⟩
theorem sketchDoes_walk (L : SketchLib Sk) (W : World) (a0 : Int) (w0 : (Lit.int .u64 a0).wf = true) (a1 : Option Addr) (len1 cap1 : Nat) (z1 : List Op) (w1 : OpsAt W a1 len1 cap1 z1) :
    Calls Try.prog 3 #[.int .u64 a0, .slice a1 len1 cap1] W fun e W' => e = .returned (.bool true) ∧ Below W.heap.size W W' := by
  obtain ⟨p0, p1⟩ := u64_wf w0
  obtain ⟨sd, rfl⟩ := Int.eq_ofNat_of_zero_le p0
  by_cases h : Short z1
  · exact sketchDoes_in L sd (by omega) w1 h
  · exact sketchDoes_out L sd (by omega) w1 h
end Go.Proofs.Ytjjmnjcgebadoaa
