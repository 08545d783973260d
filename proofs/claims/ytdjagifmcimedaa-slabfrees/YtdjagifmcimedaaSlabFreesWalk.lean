/- SlabFrees returns true for every budget, all calls and every number, and writes nothing that was there. Conditions: the contracts of package slab. -/
import Derived.Test.YtdjagifmcimedaaChRow
import Derived.Test.YtdjagifmcimedaaRegionClass
import Derived.Deep.RegionWith
import Derived.Deep.CutBlock
import Derived.Deep.CutRange
namespace Go.Proofs.Ytdjagifmcimedaa
open Go.RowKit
variable {Sl : World → Nat → (Nat → Prop) → Sb → Prop}

set_option maxRecDepth 100000 in
set_option maxHeartbeats 4000000 in
theorem slabFrees_in (L : SlabLib Sl) (bud : Int) (hbud : I64 bud) (q : Int) (hq : I64 q) {w : World} {a : Option Addr} {len cap : Nat} {os : List Op7} (h : OpsAt w a len cap os) (hlen : len ≤ 100) :
    Calls Try.prog 7 #[.int .i64 bud, .slice a len cap, .int .i64 q] w fun e w' => e = .returned (.bool true) ∧ Below w.heap.size w w' := by
  have hl := h.len_
  have hli : (len : Int) ≤ 100 := by omega
  obtain ⟨i0, hi, hz0, hz1, hz2⟩ := info_parts info_chunk
  have hB : Below w.heap.size w w := Below.refl _ _
  go_enter Try.func7, Try.ntmps7
  go_wp2_with (first
    | (go_at_call 8; refine (awake_any L _).mono ?_; rintro e w1 ⟨rfl, hb⟩; replace hB := Bt hB hb; clear hb)
    | (go_at_call 13; refine (new_is L bud hbud hB).mono ?_; clear hB; rintro e w2 ⟨b, own, rfl, H⟩))
  go_loopw [9, 10] (fun v i wr => ∃ (k : Nat) (own : Nat → Prop) (st : Sb), k ≤ len ∧ i = .int .i64 k ∧ Small st k ∧ LawR Sl w wr b own st 35 2 v st.inn.length (cksV st.inn) (fun _ => False) (fun _ => True)) (fun _ i _ => len - (intOf i).toNat)
  case atStart => exact ⟨0, own, freshS bud, Nat.zero_le _, rfl, small_fresh bud, LawR.nil H⟩
  case round =>
    clear H
    obtain ⟨k, own, st, hk, rfl, hsm, HR⟩ := hrel
    have hsm2 : Small st 10000 := small_mono hsm (by omega)
    have hgood := (L.good HR.law.sl).1
    by_cases hlt : k < len
    · obtain ⟨ca, off, rfl, hcell, hok⟩ := h.at k (by omega)
      have hsz := (hcell.on (Nat.le_refl _) HR.law.below).sz
      have hzi := hok.sz
      generalize os[k].sz = sz at *
      have hs3 := small_take hsm sz
      obtain ⟨⟨x, y⟩, hc⟩ : ∃ c, takeCk st sz = c := ⟨_, rfl⟩
      obtain ⟨t, ht⟩ : ∃ t, takeS st sz = t := ⟨_, rfl⟩
      rw [ht] at hs3
      by_cases he : takeErr st sz = 0
      · have hinn := take_zero he
        rw [ht, hc] at hinn
        have HC := hide hc
        have HE := hide he
        have HT := hide ht
        have HI := hide hinn
        have hn := hsm.inn
        clear hc he ht hinn
        go_wp2_with (first
          | (go_at_call 15; refine (take_is L HR.law hsm2 sz hzi x y 0 t HC.out HE.out HT.out).mono ?_; rintro e w3 ⟨rfl, own3, H3⟩; have H4 := (HR.to H3).step L (World.grownBy_alloc w3 (.cells #[.int .i64 x, .int .i64 y] 35) none); have HRow := hide H4.row)
          | (at_builtin; refine wpList_append_own_at _ rfl _ _ 33 rfl w.heap.size 35 i0 (.agg #[.int .i64 0, .int .i64 0]) 2 16 Try.underlying33 hi hz0 hz1 hz2 rfl (by decide) _ _ _ rfl (HRow.out.alloc _) ⟨_, 0, none⟩ 1 1 [_, _] rfl rfl (cell_two_more _ _ _ _ _) (by simp [Value.oneCell']) (by unfold maxLen; omega) (by omega) (hbase2 H4.law.below.size) ?_; intro v' w5 hown' hgrow _ hat; have H5 := H4.app L hown' hgrow hat))
        go_roundw
        case rel =>
          refine ⟨k + 1, own3, t, by omega, by go_num, hs3, ?_⟩
          rw [HI.out, List.length_append, cksV_app]
          exact H5
        case measure => simp [intOf]; omega
      · have hst := take_not he
        rw [ht] at hst
        subst hst
        obtain ⟨er, her⟩ : ∃ er, takeErr t sz = er := ⟨_, rfl⟩
        have hne : (er == 0) = false := by rw [← her]; exact beq_eq_false_iff_ne.2 he
        have HC := hide hc
        have HE := hide her
        have HT := hide ht
        clear hc he ht her
        go_wp2_with (go_at_call 15; refine (take_is L HR.law hsm2 sz hzi x y er t HC.out HE.out HT.out).mono ?_; rintro e w3 ⟨rfl, own3, H3⟩; have H4 := (HR.to H3).step L (World.grownBy_alloc w3 (.cells #[.int .i64 x, .int .i64 y] 35) none))
        go_roundw
        case rel => exact ⟨k + 1, own3, t, by omega, by go_num, hs3, H4⟩
        case measure => simp [intOf]; omega
    · have hB := HR.law.below
      by_cases hq0 : q < 0
      · go_wp2
        go_ret
        exact ⟨rfl, hB⟩
      · obtain ⟨kk, rfl⟩ := Int.eq_ofNat_of_zero_le (show 0 ≤ q by omega)
        by_cases hkn : kk < st.inn.length
        · obtain ⟨⟨x, y⟩, hxy⟩ : ∃ c, st.inn[kk] = c := ⟨_, rfl⟩
          have hmem : (x, y) ∈ st.inn := by rw [← hxy]; exact List.getElem_mem hkn
          obtain ⟨hx, hy⟩ := inn_ok hgood hsm2 (x, y) hmem
          obtain ⟨f0, f1, f2, f3, f4⟩ := free_in hgood hmem
          have hsm3 : Small (freeS st (x, y)) 10000 := small_mono (small_free hsm (x, y)) (by omega)
          have hub := used_bound hsm
          have hnl : st.inn.length ≤ 100 := by have := hsm.inn; omega
          have hbn := bytes_nonneg x
          have hbl := bytes_le x
          obtain ⟨g, cap', rfl, -, -⟩ := chunk_at HR.row kk hkn
          obtain ⟨c0, c1⟩ := chunk_cells HR.row kk hkn
          rw [hxy] at c0 c1
          obtain ⟨t1, ht1⟩ : ∃ t, freeS st (x, y) = t := ⟨_, rfl⟩
          obtain ⟨m1, hm1⟩ : ∃ m, usedS st = m := ⟨_, rfl⟩
          obtain ⟨bx, hbx⟩ : ∃ m, bytesC x = m := ⟨_, rfl⟩
          rw [hm1, hbx, ht1] at f3
          rw [ht1] at f1 f2 f4 hsm3
          rw [hm1] at hub
          rw [hbx] at hbn hbl
          have HXY := hide hxy
          have T1 := hide ht1
          have T2 := hide f2
          have F0 := hide f0
          have F1 := hide f1
          have HU1 := hide hm1
          have HU2 := hide f3
          have HBX := hide hbx
          have HM := hide f4
          have HD := hide (List.nodup_append.1 hgood.nodup).1
          clear hxy ht1 f0 f1 f2 f3 f4 hm1 hbx hmem
          go_wp2_with (first
            | (go_at_call 23; refine (used_is L HR.law hsm2 m1 HU1.out).mono ?_; clear HU1; rintro e w5 ⟨rfl, H5⟩; replace HR := HR.to H5; clear H5; obtain ⟨c2, c3⟩ := chunk_cells HR.row kk hkn; rw [HXY.out] at c2 c3)
            | (go_at_call 17; have t := F0; clear t; refine (free_is L HR.law hsm2 x y hx hy 0 t1 F0.out T1.out).mono ?_; clear F0; rintro e w6 ⟨rfl, own6, H6⟩; replace HR := HR.to H6; clear H6; obtain ⟨c4, c5⟩ := chunk_cells HR.row kk hkn; rw [HXY.out] at c4 c5)
            | (go_at_call 17; refine (free_is L HR.law hsm3 x y hx hy 1 t1 F1.out T2.out).mono ?_; clear F1; rintro e w7 ⟨rfl, own7, H7⟩; replace HR := HR.to H7; clear H7))
          clear c0 c1 c2 c3 c4 c5
          go_loopw [16] (fun i wr => ∃ j : Nat, j ≤ st.inn.length ∧ i = .int .i64 j ∧ LawR Sl w wr b own7 t1 35 2 (.slice (some ⟨g, 0, none⟩) st.inn.length cap') st.inn.length (cksV st.inn) (fun _ => False) (fun _ => True)) (fun i _ => st.inn.length - (intOf i).toNat)
          case atStart => exact ⟨0, Nat.zero_le _, rfl, HR⟩
          case round =>
            clear HR
            obtain ⟨j, hj, rfl, HR⟩ := hrel
            by_cases hjn : j < st.inn.length
            · obtain ⟨⟨u, v⟩, huv⟩ : ∃ c, st.inn[j] = c := ⟨_, rfl⟩
              have hmem : (u, v) ∈ st.inn := by rw [← huv]; exact List.getElem_mem hjn
              obtain ⟨hu, hv⟩ := inn_ok hgood hsm2 (u, v) hmem
              obtain ⟨c0, c1⟩ := chunk_cells HR.row j hjn
              rw [huv] at c0 c1
              by_cases ejk : j = kk
              · subst ejk
                have HN : Hid (decide ((u, v) ∈ t1.inn) = false) := decide_eq_false fun hm => ((HM.out _).1 hm).2 (by rw [← huv, HXY.out])
                clear huv hmem
                go_wp2_with (go_at_call 19; refine (has_is L HR.law hsm3 u v hu hv false HN.out).mono ?_; rintro e w8 ⟨rfl, H8⟩; replace HR := HR.to H8; clear H8)
                go_roundw
                case rel => exact ⟨j + 1, by omega, by go_num, HR⟩
                case measure => simp [intOf]; omega
              · have HN : Hid (decide ((u, v) ∈ t1.inn) = true) := decide_eq_true ((HM.out _).2 ⟨hmem, fun e => ejk ((List.getElem_inj HD.out).1 (by rw [huv, HXY.out, e]))⟩)
                have hjk : ((j : Int) != (kk : Int)) = true := bne_iff_ne.2 (by omega)
                clear huv hmem
                go_wp2_with (go_at_call 19; refine (has_is L HR.law hsm3 u v hu hv true HN.out).mono ?_; rintro e w8 ⟨rfl, H8⟩; replace HR := HR.to H8; clear H8)
                go_roundw
                case rel => exact ⟨j + 1, by omega, by go_num, HR⟩
                case measure => simp [intOf]; omega
            · clear hj
              have HRd : LawR Sl w wr.drew b own7 t1 35 2 (.slice (some ⟨g, 0, none⟩) st.inn.length cap') st.inn.length (cksV st.inn) (fun _ => False) (fun _ => True) := HR.step L ⟨rfl, rfl, rfl, Nat.le_refl _, fun _ _ _ => rfl⟩
              obtain ⟨m2, hm2⟩ : ∃ m, m1 - bx = m := ⟨_, rfl⟩
              rw [hm2] at HU2
              have hw2 : wrap64 (m1 - bx) = m2 := by unfold wrap64; omega
              clear hm2 hub hbn hbl hnl
              go_upto_region 22 with fail
              refine region_class (C := fun w' => LawR Sl w w' b own7 t1 35 2 (.slice (some ⟨g, 0, none⟩) st.inn.length cap') st.inn.length (cksV st.inn) (fun _ => False) (fun _ => True)) 4 (by kernel_rfl) (by kernel_rfl) HRd ?_
              iterate 8 (gi_big_quiet_step ((intro _; rfl)))
              refine class_step (a' := ?fr1) (.int .i64 m2) rfl ?val1 ?put1 ?next1
              case val1 =>
                intro w' hC
                go_simp
                exact callsIn_wide.2 ((used_is L hC.law hsm3 m2 HU2.out).mono fun _ _ h => ⟨h.1, hC.to h.2⟩)
              case put1 => simp only [Act.put, List.setIfInBounds_toArray, List.set_cons_succ, List.set_cons_zero]; rfl
              iterate 5 (gi_big_quiet_step ((intro _; rfl)))
              refine class_step (a' := ?fr2) (.int .i64 x) rfl ?val2 ?put2 ?next2
              case val2 =>
                intro w' hC
                obtain ⟨c1, _⟩ := chunk_cells hC.row kk hkn
                rw [HXY.out] at c1
                go_simp
              case put2 => simp only [Act.put, List.setIfInBounds_toArray, List.set_cons_succ, List.set_cons_zero]; rfl
              refine class_step (a' := ?fr3) (.int .i64 bx) rfl ?val3 ?put3 ?next3
              case val3 =>
                intro w' hC
                go_simp
                exact callsIn_wide.2 ((L.bytes x hx _).mono fun _ _ h => ⟨by rw [h.1, HBX.out], hC.step L h.2⟩)
              case put3 => simp only [Act.put, List.setIfInBounds_toArray, List.set_cons_succ, List.set_cons_zero]; rfl
              iterate 4 (gi_big_quiet_step ((intro _; rfl)))
              refine wpQuietIn_nil ?_
              intro w' hC
              have hB2 := hC.law.below
              go_wp2
              go_ret
              exact ⟨rfl, hB2⟩
        · obtain ⟨a', c', rfl⟩ := own_shape HR.row
          go_wp2
          go_ret
          exact ⟨rfl, hB⟩
set_option maxHeartbeats 2000000 in
theorem slabFrees_out (L : SlabLib Sl) (bud : Int) (hbud : I64 bud) (q : Int) {w : World} {a : Option Addr} {len cap : Nat} {os : List Op7} (_h : OpsAt w a len cap os) (hlen : ¬ len ≤ 100) :
    Calls Try.prog 7 #[.int .i64 bud, .slice a len cap, .int .i64 q] w fun e w' => e = .returned (.bool true) ∧ Below w.heap.size w w' := by
  have hli : (100 : Int) < (len : Int) := by omega
  have hB : Below w.heap.size w w := Below.refl _ _
  clear hlen
  go_enter Try.func7, Try.ntmps7
  go_wp2_with (first
    | (go_at_call 8; refine (awake_any L _).mono ?_; rintro e w1 ⟨rfl, hb⟩; replace hB := Bt hB hb; clear hb)
    | (go_at_call 13; refine (new_is L bud hbud hB).mono ?_; clear hB; rintro e w2 ⟨b, own, rfl, H⟩; have hB := H.below))
  go_ret
  exact ⟨rfl, hB⟩
theorem slabFrees_walk (L : SlabLib Sl) (W : World) (a0 : Int) (w0 : (Lit.int .i64 a0).wf = true) (a1 : Option Addr) (len1 cap1 : Nat) (z1 : List Op7) (w1 : OpsAt W a1 len1 cap1 z1) (a2 : Int) (w2 : (Lit.int .i64 a2).wf = true) :
    Calls Try.prog 7 #[.int .i64 a0, .slice a1 len1 cap1, .int .i64 a2] W fun e W' => e = .returned (.bool true) ∧ Below W.heap.size W W' := by
  by_cases h : len1 ≤ 100
  · exact slabFrees_in L a0 (i64_wf w0) a2 (i64_wf w2) w1 h
  · exact slabFrees_out L a0 (i64_wf w0) a2 w1 h
end Go.Proofs.Ytdjagifmcimedaa
