/- TableDoes returns true for every seed and all calls, and writes nothing that was there. Conditions: the contracts of package table. -/
import Derived.Test.YtncblaofgdcfmaaTableRefPut3
import Derived.Deep.RegionHeldLaw
namespace Go.Proofs.Ytncblaofgdcfmaa
open Go.RowKit Go.Shelf
variable {Tb : World → Nat → (Nat → Prop) → Ts → Prop}

theorem take_all9 {st : Ts} (h : st.l.length ≤ 1000) : st.l.take (1000 : Int).toNat = st.l := List.take_of_length_le h
set_option maxRecDepth 100000 in
set_option maxHeartbeats 4000000 in
theorem tableDoes_in (L : TableLib Tb) (sd : Nat) (hd : sd < 18446744073709551616) {w : World} {a : Option Addr} {len cap : Nat} {os : List Op9} (h : OpsAt w a len cap os) (hS : Short os) :
    Calls Try.prog 3 #[.int .u64 sd, .slice a len cap] w fun e w' => e = .returned (.bool true) ∧ Below w.heap.size w w' := by
  have hl := h.len_
  have hlen : len ≤ 300 := by rw [← hl]; exact hS.1
  have hB : Below w.heap.size w w := Below.refl _ _
  go_enter Try.func3, Try.ntmps3
  go_wp2_with (first
    | (go_at_call 8; refine (awake_any L _).mono ?_; rintro e w1 ⟨rfl, hb⟩; replace hB := Bt hB hb; clear hb)
    | (go_at_call 9; refine (short_any (h.on hB)).mono ?_; rintro e w2 ⟨⟨q, rfl, hq⟩, hg⟩; obtain rfl : q = true := hq.2 hS; replace hB := gr_below hB hg (fun _ e => by cases e); clear hg hq)
    | (go_at_call 10; refine (new_is L (Law.ofBelow hB) sd hd).mono ?_; clear hB; rintro e w3 ⟨b, own, rfl, H⟩)
    | (go_at_call 11; refine (rnew_is H).mono ?_; clear H; rintro e w4 ⟨r, v, rfl, H⟩; replace H := H.rot))
  go_loopw [9] (fun i wr => ∃ (k : Nat) (own : Nat → Prop) (st : Ts) (v : Value), k ≤ len ∧ i = .int .i64 k ∧ SmallT st k ∧ Law w wr ((tbP L b own st).and ((refP w.heap.size r st v).and Part.emp))) (fun i _ => len - (intOf i).toNat)
  case atStart => exact ⟨0, own, freshT, v, Nat.zero_le _, rfl, smallT_fresh, H⟩
  case round =>
    clear H
    obtain ⟨k, own, st, v, hk, rfl, hs, H⟩ := hrel
    have hsm : SmallT st 5000 := smallT_mono hs (by omega)
    by_cases hlt : k < len
    · obtain ⟨ca, off, rfl, hcell, hok⟩ := h.at k (by omega)
      have hk3 : os[k].key.size ≤ 300 := hS.2 _ (List.getElem_mem _)
      have hvi := hok.v
      have c0 := (hcell.on (Nat.le_refl _) H.below).kd
      have c1 := (hcell.on (Nat.le_refl _) H.below).key
      have hki : (k : Int) < (len : Int) := by omega
      have A1 := hide (smallT_put hs os[k].key os[k].v)
      have A2 := hide (smallT_mono (smallT_step hs) (Nat.le_succ k))
      have A3 := hide (smallT_mono (smallT_del hs os[k].key) (Nat.le_succ k))
      have A4 := hide (smallT_mono hs (Nat.le_succ k))
      have HC : Hid (∀ W : World, Below w.heap.size w W → W.cell? ⟨ca, off + k * 3 + 1, none⟩ = some (.string os[k].key) ∧ W.cell? ⟨ca, off + k * 3 + 2, none⟩ = some (.int .i64 os[k].v)) := fun W hW => ⟨(hcell.on (Nat.le_refl _) hW).key, (hcell.on (Nat.le_refl _) hW).v⟩
      have hgd := hide H.good
      generalize os[k].key = s at *
      generalize os[k].kd = kd at *
      generalize os[k].v = y at *
      clear hcell hok
      go_upto_block 2 with fail
      go_cut [10, 11, 12, 13, 14] from 47 to 119 (fun q _a _b _c _d wx => q = .bool true ∧ ∃ (own : Nat → Prop) (st : Ts) (v : Value), SmallT st (k + 1) ∧ Law w wx ((tbP L b own st).and ((refP w.heap.size r st v).and Part.emp)))
      case first =>
        by_cases k0 : kd = 0
        · have k0b : (kd == 0) = true := beq_iff_eq.2 k0
          obtain ⟨t, ht⟩ : ∃ t, putT st s y = t := ⟨_, rfl⟩
          rw [ht] at A1
          have HT := hide ht
          clear k0 ht c0 c1
          go_upto_region 13 with fail
          have H1 := H.drew
          obtain ⟨c1, c2⟩ := HC.out _ H1.below
          clear H
          go_region_held (fun w' => w'.cell? ⟨ca, off + k * 3 + 1, none⟩ = some (.string s) ∧ w'.cell? ⟨ca, off + k * 3 + 2, none⟩ = some (.int .i64 y)) (first | exact ⟨c3, c4⟩ | exact ⟨c1, c2⟩) ((go_at_call 12; refine (put_is L H1 hsm s hk3 y hvi _ HT.out).mono ?_; rintro e w5 ⟨⟨x, rfl⟩, own5, H5⟩; obtain ⟨c3, c4⟩ := HC.out _ H5.below))
          go_upto_region 14 with fail
          clear c1 c2 c3 c4 H1
          have H6 := H5.drew.rot
          obtain ⟨c1, c2⟩ := HC.out _ H6.below
          clear H5
          go_region_held (fun w' => w'.cell? ⟨ca, off + k * 3 + 1, none⟩ = some (.string s) ∧ w'.cell? ⟨ca, off + k * 3 + 2, none⟩ = some (.int .i64 y)) (first | exact ⟨c3, c4⟩ | exact ⟨c1, c2⟩) ((go_at_call 13; refine (rput_is H6 hsm hgd.out s y).mono ?_; rintro e w7 ⟨rfl, v7, H7⟩; rw [HT.out] at H7; obtain ⟨c3, c4⟩ := HC.out _ H7.below))
          go_wp2_with fail
          go_meet
          exact ⟨rfl, own5, t, v7, A1.out, H7.rot⟩
        · have k0b : (kd == 0) = false := beq_eq_false_iff_ne.2 k0
          by_cases k1 : kd = 1
          · have k1b : (kd == 1) = true := beq_iff_eq.2 k1
            obtain ⟨x, hx⟩ : ∃ x, (getL s st.l).getD 0 = x := ⟨_, rfl⟩
            obtain ⟨q, hq⟩ : ∃ q, hasT st s = q := ⟨_, rfl⟩
            have HX := hide hx
            have HQ := hide hq
            clear k0 k1 hx hq
            go_wp2_with (first
              | (go_at_call 14; refine (get_is L H hsm s hk3 _ _ HX.out HQ.out).mono ?_; rintro e w5 ⟨rfl, own5, H5⟩; replace H5 := H5.rot; have c2 := (HC.out _ H5.below).1)
              | (go_at_call 15; refine (rget_is H5 hsm hgd.out s _ _ HX.out HQ.out).mono ?_; rintro e w6 ⟨rfl, H6⟩))
            go_meet
            exact ⟨by simp, own5, stepT st, v, A2.out, H6.rot⟩
          · have k1b : (kd == 1) = false := beq_eq_false_iff_ne.2 k1
            by_cases k2 : kd = 2
            · have k2b : (kd == 2) = true := beq_iff_eq.2 k2
              obtain ⟨q, hq⟩ : ∃ q, hasT st s = q := ⟨_, rfl⟩
              have HQ := hide hq
              clear k0 k1 k2 hq c0 c1
              go_upto_region 20 with fail
              have H1 := H.drew
              have c1 := (HC.out _ H1.below).1
              clear H
              go_region_held (fun w' => w'.cell? ⟨ca, off + k * 3 + 1, none⟩ = some (.string s)) (first | exact c3 | exact c2 | exact c1) ((first
                | (go_at_call 16; refine (del_is L H1 hsm s hk3 _ HQ.out).mono ?_; rintro e w5 ⟨rfl, own5, H5⟩; replace H5 := H5.rot; have c2 := (HC.out _ H5.below).1)
                | (go_at_call 17; refine (rdel_is H5 hsm hgd.out s _ HQ.out).mono ?_; rintro e w6 ⟨rfl, v6, H6⟩; have c3 := (HC.out _ H6.below).1)))
              all_goals
                go_wp2_with fail
                go_meet
                exact ⟨by simp, own5, delT st s, v6, A3.out, H6.rot⟩
            · have k2b : (kd == 2) = false := beq_eq_false_iff_ne.2 k2
              clear k0 k1 k2
              go_wp2_with fail
              go_meet
              exact ⟨rfl, own, st, v, A4.out, H⟩
      case rest =>
        clear H hs hsm hgd A1 A2 A3 A4 HC c0 c1
        obtain ⟨rfl, own2, st2, v2, hs2, H⟩ := hcut
        have hsm : SmallT st2 5000 := smallT_mono hs2 (by omega)
        have HS2 := hide hs2
        obtain ⟨pv, cv, rfl⟩ := own_shape H.rot.ref.2
        obtain ⟨n, hn⟩ : ∃ n, st2.l.length = n := ⟨_, rfl⟩
        rw [hn] at H
        have HNI : Hid ((st2.l.length : Int) = (n : Int)) := by show _ = _; omega
        clear hn hs2
        go_upto_region 21 with fail
        have Hd := H.drew
        obtain ⟨c0, c1, c2⟩ := cells3 Hd.rot.ref.1
        clear H
        go_cut [149] from 120 to 149 (fun q wx => q = .bool false ∧ Law w wx ((tbP L b own2 st2).and ((refP w.heap.size r st2 (.slice pv n cv)).and Part.emp)))
        case first =>
          go_region_held (fun w' => w'.cell? ⟨r, 0, none⟩ = some (.slice pv n cv) ∧ w'.cell? ⟨r, 1, none⟩ = some (.int .i64 (st2.buckets : Nat)) ∧ w'.cell? ⟨r, 2, none⟩ = some (.int .i64 (st2.left : Nat))) (first | exact d12 | exact d11 | exact d10 | exact ⟨c0, c1, c2⟩) ((first
            | (go_at_call 18; refine (len_is L Hd hsm _ HNI.out).mono ?_; rintro e w10 ⟨rfl, H10⟩; have d10 := cells3 H10.rot.ref.1)
            | (go_at_call 19; refine (buckets_is L H10 hsm _ rfl).mono ?_; rintro e w11 ⟨rfl, H11⟩; have d11 := cells3 H11.rot.ref.1)
            | (go_at_call 20; refine (left_is L H11 hsm _ rfl).mono ?_; rintro e w12 ⟨rfl, H12⟩; have d12 := cells3 H12.rot.ref.1)))
          all_goals
            go_wp2_with fail
            go_meet
            exact ⟨by simp, H12⟩
        case rest =>
          obtain ⟨rfl, H13⟩ := hcut
          clear Hd c0 c1 c2
          go_wp2
          go_roundw
          case rel => exact ⟨k + 1, own2, st2, _, by omega, by go_num, HS2.out, H13⟩
          case measure => simp [intOf]; omega
    · have h1000 : st.l.length ≤ 1000 := Nat.le_trans hs.len (by omega)
      have hl2 : st.l.length ≤ 140737488351232 := by omega
      have K1 := hide (take_all9 (st := st) h1000)
      have Hd := H.drew
      obtain ⟨c0, -, -⟩ := cells3 Hd.rot.ref.1
      clear H hs h1000
      go_upto_region 23 with fail
      go_region_held (fun w' => w'.cell? ⟨r, 0, none⟩ = some v) (first | exact c9 | exact c8 | exact c0) ((first
        | (go_at_call 22; refine (all_is L Hd hsm 1000 (by decide) _ K1.out).mono ?_; rintro e w8 ⟨va, rfl, H8⟩; have R8 := H8.rin.rot; have c8 := (cells3 R8.ref.1).1)
        | (go_at_call 21; refine (same_eq _ _ _ _ hl2 (pairs_own H8.rot.q.1) (pairs_own R8.ref.2)).mono ?_; rintro e w9 ⟨rfl, hg⟩; have H9 := H8.step hg; have c9 := (cells3 H9.rin.rot.ref.1).1; have hB := H9.below)))
      all_goals
        go_wp2
        go_ret
        exact ⟨rfl, hB⟩
set_option maxRecDepth 100000 in
set_option maxHeartbeats 2000000 in
theorem tableDoes_out (L : TableLib Tb) (sd : Nat) (hd : sd < 18446744073709551616) {w : World} {a : Option Addr} {len cap : Nat} {os : List Op9} (h : OpsAt w a len cap os) (hS : ¬ Short os) :
    Calls Try.prog 3 #[.int .u64 sd, .slice a len cap] w fun e w' => e = .returned (.bool true) ∧ Below w.heap.size w w' := by
  have hB : Below w.heap.size w w := Below.refl _ _
  go_enter Try.func3, Try.ntmps3
  go_wp2_with (first
    | (go_at_call 8; refine (awake_any L _).mono ?_; rintro e w1 ⟨rfl, hb⟩; replace hB := Bt hB hb; clear hb)
    | (go_at_call 9; refine (short_any (h.on hB)).mono ?_; rintro e w2 ⟨⟨q, rfl, hq⟩, hg⟩; obtain rfl : q = false := Bool.eq_false_iff.2 fun e => hS (hq.1 e); replace hB := gr_below hB hg (fun _ e => by cases e); clear hg hq)
    | (go_at_call 10; refine (new_is L (Law.ofBelow hB) sd hd).mono ?_; clear hB; rintro e w3 ⟨b, own, rfl, H⟩; have hB := H.below))
  go_ret
  exact ⟨rfl, hB⟩
theorem tableDoes_walk (L : TableLib Tb) (W : World) (a0 : Int) (w0 : (Lit.int .u64 a0).wf = true) (a1 : Option Addr) (len1 cap1 : Nat) (z1 : List Op9) (w1 : OpsAt W a1 len1 cap1 z1) :
    Calls Try.prog 3 #[.int .u64 a0, .slice a1 len1 cap1] W fun e W' => e = .returned (.bool true) ∧ Below W.heap.size W W' := by
  obtain ⟨h0, h1⟩ := u64_wf w0
  obtain ⟨sd, rfl⟩ := Int.eq_ofNat_of_zero_le h0
  by_cases h : Short z1
  · exact tableDoes_in L sd (by omega) w1 h
  · exact tableDoes_out L sd (by omega) w1 h
end Go.Proofs.Ytncblaofgdcfmaa
