/- SlruDoes returns true for every number and all calls, and writes nothing that was there. Conditions: the contracts of package slru. -/
import Derived.Test.YtedfhikmlicbgaaSlruRefHit
import Derived.Deep.RegionHeldLaw
namespace Go.Proofs.Ytedfhikmlicbgaa
open Go.RowKit Go.Shelf
variable {Ls : World → Nat → (Nat → Prop) → Sr → Prop}

theorem read_nil {w : World} : HoldsS w (.slice none 0 0) [] := ⟨none, 0, rfl, (fun i hi => by cases hi), fun _ => rfl⟩
/-- The document's own list, new. -/
theorem Law.refNew {w0 w : World} {R : Part} (H : Law w0 w R) (most : Int) : Law w0 (w.alloc (.cells #[.int .i64 most, .slice none 0 0, .slice none 0 0] 30)) ((refP w0.heap.size w.heap.size (freshR most) (.slice none 0 0) (.slice none 0 0)).and R) := by
  have H1 := H.box (.cells #[.int .i64 most, .slice none 0 0, .slice none 0 0] 30)
  refine ⟨H1.below, ⟨⟨H1.q.1, ⟨World.ownsRow_nil _ _ _ _, read_nil, fun k hk => by cases hk⟩, ?_⟩, H1.q.2.1, ?_⟩, ?_⟩
  · rintro k _ (hk | hk) <;> cases hk
  · rintro k (hk | hk | hk)
    · exact H1.q.2.2 k hk
    · cases hk
    · cases hk
  · rintro k ((hk | hk | hk) | hk)
    · exact H1.lt k (.inl hk)
    · cases hk
    · cases hk
    · exact H1.lt k (.inr hk)
set_option maxRecDepth 100000 in
set_option maxHeartbeats 4000000 in
theorem slruDoes_in (L : SlruLib Ls) (most : Int) (hm : I64 most) {w : World} {a : Option Addr} {len cap : Nat} {os : List Op8} (h : OpsAt w a len cap os) (hS : Short os) :
    Calls Try.prog 3 #[.int .i64 most, .slice a len cap] w fun e w' => e = .returned (.bool true) ∧ Below w.heap.size w w' := by
  have hl := h.len_
  have hlen : len ≤ 200 := by rw [← hl]; exact hS.1
  have hM : (900 : Nat) < maxLen := by decide
  have hB : Below w.heap.size w w := Below.refl _ _
  go_enter Try.func3, Try.ntmps3
  go_wp2_with (first
    | (go_at_call 9; refine (awake_any L _).mono ?_; rintro e w1 ⟨rfl, hb⟩; replace hB := Bt hB hb; clear hb)
    | (go_at_call 10; refine (short_any (h.on hB)).mono ?_; rintro e w2 ⟨⟨q, rfl, hq⟩, hg⟩; obtain rfl : q = true := hq.2 hS; replace hB := gr_below hB hg (fun _ e => by cases e); clear hg hq)
    | (go_at_call 11; refine (new_is L (Law.ofBelow hB) most hm).mono ?_; clear hB; rintro e w3 ⟨b, own, rfl, H⟩))
  replace H := (H.refNew most).rot
  generalize w3.alloc (.cells #[.int .i64 most, .slice none 0 0, .slice none 0 0] 30) = w4 at *
  obtain ⟨r, hr⟩ : ∃ r, w3.heap.size = r := ⟨_, rfl⟩
  rw [hr] at H ⊢
  clear hr
  go_loopw [9] (fun i wr => ∃ (k : Nat) (own : Nat → Prop) (st : Sr) (vt vs : Value), k ≤ len ∧ i = .int .i64 k ∧ (allR st).length ≤ k ∧ Law w wr ((lsP L b own st).and ((refP w.heap.size r st vt vs).and Part.emp))) (fun i _ => len - (intOf i).toNat)
  case atStart => exact ⟨0, own, freshR most, _, _, Nat.zero_le _, rfl, Nat.zero_le _, H⟩
  case round =>
    clear H
    obtain ⟨k, own, st, vt, vs, hk, rfl, hs, H⟩ := hrel
    by_cases hlt : k < len
    · obtain ⟨ca, off, rfl, hcell, hok⟩ := h.at k (by omega)
      have c0 := (hcell.on (Nat.le_refl _) H.below).kd
      have c1 := (hcell.on (Nat.le_refl _) H.below).key
      have hki : (k : Int) < (len : Int) := by omega
      have hks := hok.key
      have hlt1 : (allR st).length < maxLen := by omega
      have hle1 : (allR st).length ≤ maxLen := by omega
      have h900 : (allR st).length ≤ 900 := by omega
      have h1000 : (allR st).length ≤ 1000 := by omega
      have A1 := hide (Nat.le_trans (len_add st os[k].key) (Nat.succ_le_succ hs))
      have A2 := hide (Nat.le_trans (Nat.le_of_eq (len_hit H.good os[k].key)) (Nat.le_succ_of_le hs))
      have A3 := hide (Nat.le_trans (len_rem st os[k].key) (Nat.le_succ_of_le hs))
      generalize os[k].key = s at *
      generalize os[k].kd = kd at *
      clear hcell hok
      go_upto_block 2 with fail
      go_cut [11, 12, 13, 14, 15] from 51 to 104 (fun q _a _b _c _d wx => q = .bool true ∧ ∃ (own : Nat → Prop) (st : Sr) (vt vs : Value), (allR st).length ≤ k + 1 ∧ Law w wx ((lsP L b own st).and ((refP w.heap.size r st vt vs).and Part.emp)))
      case first =>
        by_cases k0 : kd = 0
        · have k0b : (kd == 0) = true := beq_iff_eq.2 k0
          clear k0
          obtain ⟨er, he⟩ : ∃ e, addErr st s = e := ⟨_, rfl⟩
          obtain ⟨t, ht⟩ : ∃ t, addR st s = t := ⟨_, rfl⟩
          rw [ht] at A1
          have HE := hide he
          have HT := hide ht
          clear he ht
          go_wp2_with (first
            | (go_at_call 12; refine (add_is L H hlt1 s hks _ _ HE.out HT.out).mono ?_; rintro e w5 ⟨rfl, own5, H5⟩; replace H5 := H5.rot)
            | (go_at_call 13; refine (radd_is H5 h900 s _ _ HE.out HT.out).mono ?_; rintro e w6 ⟨rfl, vt6, vs6, H6⟩))
          go_meet
          exact ⟨by simp, own5, t, vt6, vs6, A1.out, H6.rot⟩
        · have k0b : (kd == 0) = false := beq_eq_false_iff_ne.2 k0
          by_cases k1 : kd = 1
          · have k1b : (kd == 1) = true := beq_iff_eq.2 k1
            clear k0 k1
            obtain ⟨er, he⟩ : ∃ e, remErr st s = e := ⟨_, rfl⟩
            obtain ⟨t, ht⟩ : ∃ t, hitR st s = t := ⟨_, rfl⟩
            rw [ht] at A2
            have HE := hide he
            have HT := hide ht
            clear he ht
            go_wp2_with (first
              | (go_at_call 14; refine (hit_is L H hle1 s hks _ _ HE.out HT.out).mono ?_; rintro e w5 ⟨rfl, own5, H5⟩; replace H5 := H5.rot)
              | (go_at_call 15; refine (rhit_is H5 h900 s _ _ HE.out HT.out).mono ?_; rintro e w6 ⟨rfl, vt6, vs6, H6⟩))
            go_meet
            exact ⟨by simp, own5, t, vt6, vs6, A2.out, H6.rot⟩
          · have k1b : (kd == 1) = false := beq_eq_false_iff_ne.2 k1
            by_cases k2 : kd = 2
            · have k2b : (kd == 2) = true := beq_iff_eq.2 k2
              clear k0 k1 k2
              obtain ⟨er, he⟩ : ∃ e, remErr st s = e := ⟨_, rfl⟩
              obtain ⟨t, ht⟩ : ∃ t, remR st s = t := ⟨_, rfl⟩
              rw [ht] at A3
              have HE := hide he
              have HT := hide ht
              clear he ht
              go_wp2_with (first
                | (go_at_call 16; refine (remove_is L H hle1 s hks _ _ HE.out HT.out).mono ?_; rintro e w5 ⟨rfl, own5, H5⟩; replace H5 := H5.rot)
                | (go_at_call 17; refine (rrem_all H5 h900 s _ _ HE.out HT.out).mono ?_; rintro e w6 ⟨rfl, vt6, vs6, H6⟩))
              go_meet
              exact ⟨by simp, own5, t, vt6, vs6, A3.out, H6.rot⟩
            · have k2b : (kd == 2) = false := beq_eq_false_iff_ne.2 k2
              by_cases k3 : kd = 3
              · have k3b : (kd == 3) = true := beq_iff_eq.2 k3
                clear k0 k1 k2 k3
                obtain ⟨x, hx⟩ : ∃ x, (vicR st s).getD ⟨#[]⟩ = x := ⟨_, rfl⟩
                obtain ⟨q, hq⟩ : ∃ q, (vicR st s).isSome = q := ⟨_, rfl⟩
                have HX := hide hx
                have HQ := hide hq
                clear hx hq
                go_wp2_with (first
                  | (go_at_call 18; refine (victim_is L H hle1 s hks _ _ HX.out HQ.out).mono ?_; rintro e w5 ⟨rfl, H5⟩; replace H5 := H5.rot)
                  | (go_at_call 19; refine (rvic_is H5 h1000 s _ _ HX.out HQ.out).mono ?_; rintro e w6 ⟨rfl, H6⟩))
                go_meet
                exact ⟨by simp, own, st, vt, vs, Nat.le_succ_of_le hs, H6.rot⟩
              · have k3b : (kd == 3) = false := beq_eq_false_iff_ne.2 k3
                clear k0 k1 k2 k3
                go_wp2_with fail
                go_meet
                exact ⟨rfl, own, st, vt, vs, Nat.le_succ_of_le hs, H⟩
      case rest =>
        clear H hs A1 A2 A3 hlt1 hle1 h900 h1000 c0 c1
        obtain ⟨rfl, own2, st2, vt2, vs2, hs2, H⟩ := hcut
        have hle : (allR st2).length ≤ maxLen := by omega
        have h1000 : (allR st2).length ≤ 1000 := by omega
        have hl2 : (allR st2).length ≤ 140737488351232 := by omega
        have K1 := hide (take_all (st := st2) h1000)
        obtain ⟨ps, cs, hvs, -, -⟩ := H.rot.ref.2.2
        obtain ⟨sf, hsf⟩ : ∃ n, st2.safe.length = n := ⟨_, rfl⟩
        obtain ⟨n, hn⟩ : ∃ n, (allR st2).length = n := ⟨_, rfl⟩
        rw [hsf] at hvs
        subst hvs
        have HN := hide hn
        have HNI : Hid (((allR st2).length : Int) = (n : Int)) := by show _ = _; omega
        have HSI : Hid ((st2.safe.length : Int) = (sf : Int)) := by show _ = _; omega
        have hnk : n ≤ k + 1 := by omega
        have HNK := hide hnk
        clear hsf hn hs2 hnk
        go_upto_region 24 with (first
          | (go_at_call 21; refine (all_is L H h1000 1000 (by decide) _ K1.out).mono ?_; clear H K1; rintro e w7 ⟨va, rfl, H⟩; replace H := H.rin.rot)
          | (go_at_call 22; refine (rall_is H h1000 _ rfl).mono ?_; clear H; rintro e w8 ⟨vb, rfl, H⟩)
          | (go_at_call 20; refine (same_eq _ _ _ _ hl2 (holds_own H.q.2.1.2.1.2.1.1) (holds_own H.q.1)).mono ?_; rintro e w9 ⟨rfl, hg⟩; replace H := H.step hg; clear hg))
        have H9 := H.right.rot.in1 (R' := (refP w.heap.size r st2 vt2 (.slice ps sf cs)).and Part.emp) (fun h => ⟨h.1, trivial, fun _ _ hk => hk.elim⟩) (fun k hk => hk.elim .inl (fun h => h.elim))
        clear H
        have Hd := H9.drew
        have c2 := (cells3 Hd.rot.ref.1).2.2
        go_cut [133] from 110 to 133 (fun q wx => q = .bool false ∧ Law w wx ((lsP L b own2 st2).and ((refP w.heap.size r st2 vt2 (.slice ps sf cs)).and Part.emp)))
        case first =>
          go_region_held (fun w' => w'.cell? ⟨r, 2, none⟩ = some (.slice ps sf cs)) (first | exact c5 | exact c4 | exact c3 | exact c2) ((first
            | (go_at_call 23; refine (len_is L Hd hle _ HNI.out).mono ?_; rintro e w10 ⟨rfl, H10⟩; have c3 := (cells3 H10.rot.ref.1).2.2)
            | (go_at_call 22; refine (rall_is H10.rot h1000 _ rfl).mono ?_; rintro e w11 ⟨vc, rfl, H11⟩; obtain ⟨pc, cc, rfl⟩ := own_shape H11.q.1; replace H11 := H11.right.rot; have c4 := (cells3 H11.rot.ref.1).2.2; rw [HN.out])
            | (go_at_call 24; refine (prot_is L H11 hle _ HSI.out).mono ?_; rintro e w12 ⟨rfl, H12⟩; have c5 := (cells3 H12.rot.ref.1).2.2)))
          all_goals
            go_wp2_with fail
            go_meet
            exact ⟨by simp, H12⟩
        case rest =>
          obtain ⟨rfl, H13⟩ := hcut
          clear Hd H9 c2
          go_wp2
          go_roundw
          case rel => exact ⟨k + 1, own2, st2, vt2, _, by omega, by go_num, by rw [HN.out]; exact HNK.out, H13⟩
          case measure => simp [intOf]; omega
    · have hB := H.below
      go_wp2
      go_ret
      exact ⟨rfl, hB⟩
set_option maxRecDepth 100000 in
set_option maxHeartbeats 2000000 in
theorem slruDoes_out (L : SlruLib Ls) (most : Int) (hm : I64 most) {w : World} {a : Option Addr} {len cap : Nat} {os : List Op8} (h : OpsAt w a len cap os) (hS : ¬ Short os) :
    Calls Try.prog 3 #[.int .i64 most, .slice a len cap] w fun e w' => e = .returned (.bool true) ∧ Below w.heap.size w w' := by
  have hB : Below w.heap.size w w := Below.refl _ _
  go_enter Try.func3, Try.ntmps3
  go_wp2_with (first
    | (go_at_call 9; refine (awake_any L _).mono ?_; rintro e w1 ⟨rfl, hb⟩; replace hB := Bt hB hb; clear hb)
    | (go_at_call 10; refine (short_any (h.on hB)).mono ?_; rintro e w2 ⟨⟨q, rfl, hq⟩, hg⟩; obtain rfl : q = false := Bool.eq_false_iff.2 fun e => hS (hq.1 e); replace hB := gr_below hB hg (fun _ e => by cases e); clear hg hq)
    | (go_at_call 11; refine (new_is L (Law.ofBelow hB) most hm).mono ?_; clear hB; rintro e w3 ⟨b, own, rfl, H⟩; have hB := H.below))
  go_ret
  exact ⟨rfl, hB⟩
theorem slruDoes_walk (L : SlruLib Ls) (W : World) (a0 : Int) (w0 : (Lit.int .i64 a0).wf = true) (a1 : Option Addr) (len1 cap1 : Nat) (z1 : List Op8) (w1 : OpsAt W a1 len1 cap1 z1) :
    Calls Try.prog 3 #[.int .i64 a0, .slice a1 len1 cap1] W fun e W' => e = .returned (.bool true) ∧ Below W.heap.size W W' := by
  by_cases h : Short z1
  · exact slruDoes_in L a0 (i64_wf w0) w1 h
  · exact slruDoes_out L a0 (i64_wf w0) w1 h
end Go.Proofs.Ytedfhikmlicbgaa
