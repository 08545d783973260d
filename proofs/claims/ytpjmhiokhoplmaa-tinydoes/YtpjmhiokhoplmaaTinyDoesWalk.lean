/- TinyDoes returns true for every seed, all calls and every text, and writes nothing that was there. Conditions: the contracts of package tiny. -/
import Derived.Test.YtpjmhiokhoplmaaTinyRef
import Derived.Test.YtpjmhiokhoplmaaTinyLib
import Derived.Deep.RegionWith
import Derived.Deep.CutBlock
import Derived.Deep.CutRange
import Derived.Test.YtpjmhiokhoplmaaRegionClass
namespace Go.Proofs.Ytpjmhiokhoplmaa
open Go.RowKit
variable {Jd : World → Nat → List Nat → Nat → Js → Prop}

theorem gr_drewN0 (w : World) (k : Nat) (row : Option Nat) : w.grownBy (w.drewN k) row := ⟨rfl, rfl, rfl, Nat.le_refl _, fun _ _ _ => rfl⟩
/-- The two judges, side by side: they have seen the same, and share no memory. -/
structure BothJ (Jd : World → Nat → List Nat → Nat → Js → Prop) (w0 w : World) (b : Nat) (bs : List Nat) (h c kc g sd : Nat) (j : Js) (v : Value) : Prop where
  jd : Jd w b bs sd j
  rj : RJ w0.heap.size w h c kc g sd j v
  apart : ∀ k ∈ bs, ¬ JOwn h c kc g v k
  b0 : ∀ k ∈ bs, w0.heap.size ≤ k
  below : Below w0.heap.size w0 w
section
variable {w0 w w1 w2 w3 : World} {b b' h c kc g sd : Nat} {bs bs' : List Nat} {j j1 : Js} {v v2 : Value}
theorem BothJ.step (H : BothJ Jd w0 w b bs h c kc g sd j v) (hF : Jd w1 b bs sd j) (hg : w.grownBy w1 none) : BothJ Jd w0 w1 b bs h c kc g sd j v :=
  ⟨hF, H.rj.kept hg, H.apart, H.b0, gr_below H.below hg (fun _ e => by cases e)⟩
theorem BothJ.drewN (L : TinyLib Jd) (H : BothJ Jd w0 w b bs h c kc g sd j v) (k : Nat) : BothJ Jd w0 (w.drewN k) b bs h c kc g sd j v := H.step (L.kept H.jd (gr_drewN0 w k none)) (gr_drewN0 w k none)
theorem gr_drew (w : World) (row : Option Nat) : w.grownBy w.drew row := ⟨rfl, rfl, rfl, Nat.le_refl _, fun _ _ _ => rfl⟩
theorem BothJ.drew (L : TinyLib Jd) (H : BothJ Jd w0 w b bs h c kc g sd j v) : BothJ Jd w0 w.drew b bs h c kc g sd j v := H.step (L.kept H.jd (gr_drew w none)) (gr_drew w none)
theorem BothJ.ref1 (H : BothJ Jd w0 w b bs h c kc g sd j v) (hg : Gr (· ∈ bs) w w1) : RJ w0.heap.size w1 h c kc g sd j v := H.rj.same fun k hk => hg.block k (H.rj.lt k hk) (fun hb => H.apart k hb hk)
theorem BothJ.touch (L : TinyLib Jd) (H : BothJ Jd w0 w b bs h c kc g sd j v) (hF : Jd w1 b bs sd j1) (hg : Gr (· ∈ bs) w w1) (hR : RJ w0.heap.size w2 h c kc g sd j1 v2) (hG : Gr (JOwn h c kc g v) w1 w2) (hf : ∀ k, v2.ownBlock = some k → v.ownBlock = some k ∨ w1.heap.size ≤ k) : BothJ Jd w0 w2 b bs h c kc g sd j1 v2 := by
  refine ⟨L.keep hF fun k hk => hG.block k (L.lt hF k hk) (H.apart k hk), hR, fun k hk => ?_, H.b0, Gr.below (Gr.below H.below hg H.b0) hG H.rj.from0⟩
  rintro (e | e | e | e | e)
  · exact H.apart k hk (.inl e)
  · exact H.apart k hk (.inr (.inl e))
  · exact H.apart k hk (.inr (.inr (.inl e)))
  · exact H.apart k hk (.inr (.inr (.inr (.inl e))))
  · exact (hf k e).elim (fun e => H.apart k hk (.inr (.inr (.inr (.inr e))))) (fun hw => Nat.not_lt_of_le hw (L.lt hF k hk))
theorem BothJ.copy (L : TinyLib Jd) (H : BothJ Jd w0 w b bs h c kc g sd j v) (hb : ∀ k ∈ bs', w.heap.size ≤ k) (hF : Jd w1 b' bs' sd j) (h1 : w.grownBy w1 none) (h2 : Gr (· ∈ bs) w1 w2) (h3 : Gr (· ∈ bs) w2 w3) : BothJ Jd w0 w3 b' bs' h c kc g sd j v := by
  have hne : ∀ k ∈ bs', ¬ k ∈ bs := fun k hk hb' => Nat.not_lt_of_le (hb k hk) (L.lt H.jd k hb')
  have r1 := H.rj.kept h1
  have r2 : RJ w0.heap.size w2 h c kc g sd j v := r1.same fun k hk => h2.block k (r1.lt k hk) (fun hb => H.apart k hb hk)
  have r3 : RJ w0.heap.size w3 h c kc g sd j v := r2.same fun k hk => h3.block k (r2.lt k hk) (fun hb => H.apart k hb hk)
  exact ⟨L.apart (L.apart hF h2 hne) h3 hne, r3, fun k hk ho => Nat.not_lt_of_le (hb k hk) (H.rj.lt k ho), fun k hk => Nat.le_trans H.below.size (hb k hk), Gr.below (Gr.below (gr_below H.below h1 (fun _ e => by cases e)) h2 H.b0) h3 H.b0⟩
end

set_option maxRecDepth 100000 in
set_option maxHeartbeats 4000000 in
theorem tinyDoes_in (L : TinyLib Jd) (seed : Nat) (hd : seed < 18446744073709551616) (t : ByteArray) (ht : t.size ≤ 300) {w : World} {a : Option Addr} {len cap : Nat} {os : List Op} (h : OpsAt w a len cap os) (hS : Short os) :
    Calls Try.prog 3 #[.int .u64 seed, .slice a len cap, .string t] w fun e w' => e = .returned (.bool true) ∧ Below w.heap.size w w' := by
  have hl := h.len_
  have hlen : len ≤ 60 := by have := hS.1; omega
  have HS := hide hS
  have ht2 : t.size ≤ 140737488351232 := Nat.le_trans ht (by decide)
  have hti : (t.size : Int) ≤ 300 := by omega
  have hB : Below w.heap.size w w := Below.refl _ _
  clear hS
  go_enter Try.func3, Try.ntmps3
  go_wp2_with (first
    | (go_at_call 8; refine (awake_any L _).mono ?_; rintro e w1 ⟨rfl, hb⟩; replace hB := Bt hB hb; clear hb)
    | (go_at_call 9; refine (short_any (h.on hB)).mono ?_; rintro e w2 ⟨r, rfl, hr, rfl⟩; obtain rfl : r = true := hr.2 HS.out; clear hr)
    | (go_at_call 10; refine (L.new seed hd _).mono ?_; rintro e w3 ⟨b, bs, rfl, hb, hF, hg⟩; replace hb := fun k hk => Nat.le_trans hB.size (hb k hk); replace hB := gr_below hB hg (fun _ e => by cases e); clear hg)
    | (go_at_call 11; refine (rjnew_any seed w.heap.size _ hB.size).mono ?_; rintro e w4 ⟨hh, c, kc, g, rfl, hR, hfar, hg⟩; have hH : BothJ Jd w w4 b bs hh c kc g seed freshJ (.slice none 0 0) := ⟨L.kept hF hg, hR, (fun k hk ho => Nat.not_lt_of_le (hfar k ho) (L.lt hF k hk)), hb, gr_below hB hg (fun _ e => by cases e)⟩; clear hg hR hF hfar))
  clear hB hb
  go_loopw [9, 11] (fun f i wr => ∃ (k b : Nat) (bs : List Nat) (j : Js) (v : Value), k ≤ len ∧ i = .int .i64 k ∧ f = .pointer (some ⟨b, 0, none⟩) ∧ BothJ Jd w wr b bs hh c kc g seed j v) (fun _ i _ => len - (intOf i).toNat)
  case atStart => exact ⟨0, b, bs, freshJ, _, Nat.zero_le _, rfl, rfl, hH⟩
  case round =>
    clear hH
    obtain ⟨k, b, bs, j, v, hk, rfl, rfl, hH⟩ := hrel
    by_cases hlt : k < len
    · obtain ⟨ca, off, kd, tm, s, rfl, hcell, he, hkd, htm⟩ := h.at k (by omega)
      have hsz := (short_at HS.out (show k < os.length by omega) he).1
      have ht1 := (short_at HS.out (show k < os.length by omega) he).2
      have hsz2 : s.size ≤ 140737488351232 := Nat.le_trans hsz (by decide)
      clear he
      have hcq := hcell.on (Nat.le_refl _) hH.below
      have hcn := hcq.num
      clear hcq
      go_upto_if 52 with fail
      go_cut [9, 12] from 41 to 135 (fun f _old wx => ∃ (b : Nat) (bs : List Nat) (j : Js) (v : Value), f = .pointer (some ⟨b, 0, none⟩) ∧ BothJ Jd w wx b bs hh c kc g seed j v)
      case first =>
        by_cases k2 : kd = 2
        · subst k2
          go_wp2_with (first
            | (go_at_call 12; refine (L.copy hH.jd).mono ?_; rintro e w5 ⟨b5, bs5, rfl, hb5, hF5, hg5⟩; have hO5 := L.kept hH.jd hg5)
            | (go_at_call 13; have t0 := hO5; clear t0; refine (L.touch hO5 _ (by decide)).mono ?_; clear hO5; rintro e w6 ⟨⟨v6, rfl⟩, hO6, hg6⟩)
            | (go_at_call 13; refine (L.touch hO6 _ (by decide)).mono ?_; rintro e w7 ⟨⟨v7, rfl⟩, hO7, hg7⟩))
          go_meet
          exact ⟨b5, bs5, j, v, rfl, hH.copy L hb5 hF5 hg5 hg6 hg7⟩
        · have e2 : (kd == 2) = false := beq_eq_false_iff_ne.2 k2
          clear k2
          go_wp2_with fail
          go_meet
          exact ⟨b, bs, j, v, rfl, hH⟩
      case rest =>
        clear hcn hH
        obtain ⟨b, bs, j, v, rfl, hH⟩ := hcut
        go_upto_block 2 with fail
        go_cut [13] from 62 to 135 (fun _i wx => ∃ (j : Js) (v : Value), BothJ Jd w wx b bs hh c kc g seed j v)
        case first =>
          go_wp2
          go_loopw [13] (fun i wr => ∃ (n : Nat) (j : Js) (v : Value), (n = 0 ∨ (n : Int) ≤ tm) ∧ i = .int .i64 n ∧ BothJ Jd w wr b bs hh c kc g seed j v) (fun i _ => tm.toNat - (intOf i).toNat)
          case atStart => exact ⟨0, j, v, .inl rfl, rfl, hH⟩
          case round =>
            clear hH
            obtain ⟨n, j, v, hn, rfl, hH⟩ := hrel
            have hcq := hcell.on (Nat.le_refl _) hH.below
            have hct := hcq.txt
            have hcm := hcq.tms
            have hcn := hcq.num
            clear hcq
            by_cases hgo : (n : Int) < tm ∧ kd = 0
            · obtain ⟨hjt, rfl⟩ := hgo
              have hgood := (L.good hH.jd).1
              go_wp2_with (first
                | (go_at_call 13; refine (L.touch hH.jd s hsz).mono ?_; rintro e w5 ⟨⟨v5, rfl⟩, hF5, hg5⟩; have hR5 := hH.ref1 hg5; have hB5 := Gr.below hH.below hg5 hH.b0; have hct5 := (hcell.on (Nat.le_refl _) hB5).txt)
                | (go_at_call 14; refine (rjtouch_any hR5 hB5.size hgood s hsz2).mono ?_; rintro e w6 ⟨⟨v6, rfl⟩, v', hR6, hg6, hf6⟩; have hH6 := BothJ.touch L hH hF5 hg5 hR6 hg6 hf6))
              go_roundw
              case rel => exact ⟨n + 1, _, _, .inr (by omega), by go_num, hH6⟩
              case measure => simp [intOf]; omega
            · have hstop : (tm ≤ (n : Int)) ∨ ((n : Int) < tm ∧ (kd == 0) = false) := by
                by_cases h1 : (n : Int) < tm
                · exact .inr ⟨h1, beq_eq_false_iff_ne.2 fun h2 => hgo ⟨h1, h2⟩⟩
                · exact .inl (by omega)
              clear hgo
              rcases hstop with hst | ⟨hst, hkb⟩
              · go_wp2
                go_meet
                exact ⟨j, v, hH⟩
              · go_wp2
                go_meet
                exact ⟨j, v, hH⟩
        case rest =>
          clear hH
          obtain ⟨j, v, hH⟩ := hcut
          have hHd := BothJ.drew L hH
          have hgood := (L.good hH.jd).1
          obtain ⟨n1, hn1⟩ : ∃ n1, worthJ seed j s.data.toList = n1 := ⟨_, rfl⟩
          obtain ⟨n2, hn2⟩ : ∃ n2, worthJ seed j t.data.toList = n2 := ⟨_, rfl⟩
          obtain ⟨q, hq⟩ : ∃ q, decide (n1 < n2) = q := ⟨_, rfl⟩
          have H1 := hide hn1
          have H2 := hide hn2
          have H3 := hide hq
          clear hn1 hn2 hq
          go_upto_region 22 with fail
          go_cut [135] from 93 to 135 (fun q wx => q = .bool false ∧ BothJ Jd w wx b bs hh c kc g seed j v)
          case first =>
            refine region_class (C := fun w' => BothJ Jd w w' b bs hh c kc g seed j v) 4 (by kernel_rfl) (by kernel_rfl) hHd ?_
            iterate 5 (gi_big_quiet_step ((intro _; rfl)))
            refine class_step (a' := ?fr1) (.string s) rfl ?val1 ?put1 ?next1
            case val1 =>
              intro w' hC
              have hct := (hcell.on (Nat.le_refl _) hC.below).txt
              go_simp
            case put1 => simp only [Act.put, List.setIfInBounds_toArray, List.set_cons_succ, List.set_cons_zero]; rfl
            refine class_step (a' := ?fr2) (.int .i64 n1) rfl ?val2 ?put2 ?next2
            case val2 =>
              intro w' hC
              go_simp
              exact callsIn_wide.2 ((L.worth hC.jd s hsz).mono fun _ _ h => ⟨by rw [h.1, H1.out], hC.step h.2.1 h.2.2⟩)
            case put2 => simp only [Act.put, List.setIfInBounds_toArray, List.set_cons_succ, List.set_cons_zero]; rfl
            iterate 5 (gi_big_quiet_step ((intro _; rfl)))
            refine class_step (a' := ?fr3) (.string s) rfl ?val3 ?put3 ?next3
            case val3 =>
              intro w' hC
              have hct := (hcell.on (Nat.le_refl _) hC.below).txt
              go_simp
            case put3 => simp only [Act.put, List.setIfInBounds_toArray, List.set_cons_succ, List.set_cons_zero]; rfl
            refine class_step (a' := ?fr4) (.int .i64 n1) rfl ?val4 ?put4 ?next4
            case val4 =>
              intro w' hC
              go_simp
              exact callsIn_wide.2 ((rjworth_any hC.rj hgood s hsz2).mono fun _ _ ⟨h1, d, h2⟩ => ⟨by rw [h1, H1.out], by rw [h2]; exact BothJ.drewN L hC d⟩)
            case put4 => simp only [Act.put, List.setIfInBounds_toArray, List.set_cons_succ, List.set_cons_zero]; rfl
            iterate 4 (gi_big_quiet_step ((intro _; rfl)))
            refine class_step (a' := ?fr5) (.int .i64 n2) rfl ?val5 ?put5 ?next5
            case val5 =>
              intro w' hC
              go_simp
              exact callsIn_wide.2 ((L.worth hC.jd t ht).mono fun _ _ h => ⟨by rw [h.1, H2.out], hC.step h.2.1 h.2.2⟩)
            case put5 => simp only [Act.put, List.setIfInBounds_toArray, List.set_cons_succ, List.set_cons_zero]; rfl
            iterate 2 (gi_big_quiet_step ((intro _; rfl)))
            refine class_step (a' := ?fr6) (.int .i64 n2) rfl ?val6 ?put6 ?next6
            case val6 =>
              intro w' hC
              go_simp
              exact callsIn_wide.2 ((rjworth_any hC.rj hgood t ht2).mono fun _ _ ⟨h1, d, h2⟩ => ⟨by rw [h1, H2.out], by rw [h2]; exact BothJ.drewN L hC d⟩)
            case put6 => simp only [Act.put, List.setIfInBounds_toArray, List.set_cons_succ, List.set_cons_zero]; rfl
            iterate 9 (gi_big_quiet_step ((intro _; rfl)))
            refine class_step (a' := ?fr7) (.string s) rfl ?val7 ?put7 ?next7
            case val7 =>
              intro w' hC
              have hct := (hcell.on (Nat.le_refl _) hC.below).txt
              go_simp
            case put7 => simp only [Act.put, List.setIfInBounds_toArray, List.set_cons_succ, List.set_cons_zero]; rfl
            refine class_step (a' := ?fr8) (.bool q) rfl ?val8 ?put8 ?next8
            case val8 =>
              intro w' hC
              go_simp
              exact callsIn_wide.2 ((L.admits hC.jd t s ht hsz).mono fun _ _ h => ⟨by rw [h.1, H1.out, H2.out, H3.out], hC.step h.2.1 h.2.2⟩)
            case put8 => simp only [Act.put, List.setIfInBounds_toArray, List.set_cons_succ, List.set_cons_zero]; rfl
            iterate 6 (gi_big_quiet_step ((intro _; rfl)))
            refine class_step (a' := ?fr9) (.string s) rfl ?val9 ?put9 ?next9
            case val9 =>
              intro w' hC
              have hct := (hcell.on (Nat.le_refl _) hC.below).txt
              go_simp
            case put9 => simp only [Act.put, List.setIfInBounds_toArray, List.set_cons_succ, List.set_cons_zero]; rfl
            refine class_step (a' := ?fr10) (.bool q) rfl ?val10 ?put10 ?next10
            case val10 =>
              intro w' hC
              go_simp
              exact callsIn_wide.2 ((rjadmit_any hC.rj hgood t s ht2 hsz2).mono fun _ _ ⟨h1, d, h2⟩ => ⟨by rw [h1, H1.out, H2.out, H3.out], by rw [h2]; exact BothJ.drewN L hC d⟩)
            case put10 => simp only [Act.put, List.setIfInBounds_toArray, List.set_cons_succ, List.set_cons_zero]; rfl
            iterate 2 (gi_big_quiet_step ((intro _; rfl)))
            refine wpQuietIn_nil ?_
            intro w' hC
            go_wp2_with fail
            go_meet
            exact ⟨by simp, hC⟩
          case rest =>
            obtain ⟨rfl, hH7⟩ := hcut
            clear hHd hH hgood H1 H2 H3
            go_wp2
            go_roundw
            case rel => exact ⟨k + 1, b, bs, j, v, by omega, by go_num, rfl, hH7⟩
            case measure => simp [intOf]; omega
    · have hB := hH.below
      go_wp2
      go_ret
      exact ⟨rfl, hB⟩
set_option maxHeartbeats 2000000 in
theorem tinyDoes_out (L : TinyLib Jd) (seed : Nat) (hd : seed < 18446744073709551616) {w : World} {a : Option Addr} {len cap : Nat} {os : List Op} (h : OpsAt w a len cap os) (x : ByteArray) (hS : ¬ Short os) :
    Calls Try.prog 3 #[.int .u64 seed, .slice a len cap, .string x] w fun e w' => e = .returned (.bool true) ∧ Below w.heap.size w w' := by
  have HS := hide hS
  have hB : Below w.heap.size w w := Below.refl _ _
  clear hS
  go_enter Try.func3, Try.ntmps3
  go_wp2_with (first
    | (go_at_call 8; refine (awake_any L _).mono ?_; rintro e w1 ⟨rfl, hb⟩; replace hB := Bt hB hb; clear hb)
    | (go_at_call 9; refine (short_any (h.on hB)).mono ?_; rintro e w2 ⟨r, rfl, hr, rfl⟩; obtain rfl : r = false := Bool.eq_false_iff.2 (fun e => HS.out (hr.1 e)); clear hr)
    | (go_at_call 10; refine (L.new seed hd _).mono ?_; rintro e w3 ⟨b, bs, rfl, -, -, hg⟩; replace hB := gr_below hB hg (fun _ e => by cases e); clear hg))
  go_ret
  exact ⟨rfl, hB⟩
set_option maxHeartbeats 2000000 in
theorem tinyDoes_long0 (L : TinyLib Jd) (seed : Nat) (hd : seed < 18446744073709551616) {w : World} {a : Option Addr} {len cap : Nat} {os : List Op} (h : OpsAt w a len cap os) (x : ByteArray) (hS : Short os)  (hl : 300 < x.size) :
    Calls Try.prog 3 #[.int .u64 seed, .slice a len cap, .string x] w fun e w' => e = .returned (.bool true) ∧ Below w.heap.size w w' := by
  have HS := hide hS
  have hB : Below w.heap.size w w := Below.refl _ _
  have hli : (300 : Int) < (x.size : Int) := by omega
  clear hS hl
  go_enter Try.func3, Try.ntmps3
  go_wp2_with (first
    | (go_at_call 8; refine (awake_any L _).mono ?_; rintro e w1 ⟨rfl, hb⟩; replace hB := Bt hB hb; clear hb)
    | (go_at_call 9; refine (short_any (h.on hB)).mono ?_; rintro e w2 ⟨r, rfl, hr, rfl⟩; obtain rfl : r = true := hr.2 HS.out; clear hr)
    | (go_at_call 10; refine (L.new seed hd _).mono ?_; rintro e w3 ⟨b, bs, rfl, -, -, hg⟩; replace hB := gr_below hB hg (fun _ e => by cases e); clear hg))
  go_ret
  exact ⟨rfl, hB⟩
theorem tinyDoes_walk (L : TinyLib Jd) (W : World) (a0 : Int) (w0 : (Lit.int .u64 a0).wf = true) (a1 : Option Addr) (len1 cap1 : Nat) (z1 : List Op) (w1 : OpsAt W a1 len1 cap1 z1) (s2 : ByteArray) (_w2 : s2.size ≤ 140737488351232) :
    Calls Try.prog 3 #[.int .u64 a0, .slice a1 len1 cap1, .string s2] W fun e W' => e = .returned (.bool true) ∧ Below W.heap.size W W' := by
  obtain ⟨p0, p1⟩ := u64_wf w0
  obtain ⟨sd, rfl⟩ := Int.eq_ofNat_of_zero_le p0
  by_cases h : Short z1
  · by_cases h0 : s2.size ≤ 300
    · exact tinyDoes_in L sd (by omega) s2 h0 w1 h
    · exact tinyDoes_long0 L sd (by omega) w1 s2 h (by omega)
  · exact tinyDoes_out L sd (by omega) w1 s2 h
end Go.Proofs.Ytpjmhiokhoplmaa
