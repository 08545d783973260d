/- SlabBudget returns true for every budget and all calls, and writes nothing that was there. Conditions: the contracts of package slab. -/
import Derived.Test.YtdjagifmcimedaaChRow
import Derived.BigQuiet
import Derived.Deep.RegionWith
import Derived.Deep.RegionHeldLaw
import Derived.Deep.CutBlock
import Derived.Deep.CutRange
namespace Go.Proofs.Ytdjagifmcimedaa
open Go.RowKit
variable {Sl : World → Nat → (Nat → Prop) → Sb → Prop}

/-- The slice that the statement keeps is what is in use. -/
abbrev Keeps (Sl : World → Nat → (Nat → Prop) → Sb → Prop) (w0 w : World) (b : Nat) (own : Nat → Prop) (st : Sb) (v : Value) (B : Nat → Prop) (Q : World → Prop) : Prop :=
  LawR Sl w0 w b own st 35 2 v st.inn.length (cksV st.inn) B Q
/-- One call in a block of the statement's own. -/
def opO (o : Op7) : Obj := .cells #[.int .i64 o.kd, .int .i64 o.sz, .int .i64 o.n, .bool o.raw, .int .i64 o.cls, .int .i64 o.no] 37
theorem opO_cells {w : World} {k : Nat} {o : Op7} (h : w.heap[k]? = some (opO o)) : w.cell? ⟨k, 0, none⟩ = some (.int .i64 o.kd) ∧ w.cell? ⟨k, 1, none⟩ = some (.int .i64 o.sz) ∧ w.cell? ⟨k, 2, none⟩ = some (.int .i64 o.n) := by
  unfold opO at h
  simp [World.cell?, h]

theorem take_bud' (st : Sb) (s : Int) : (takeS st s).bud = st.bud := by
  unfold takeS
  split
  · unfold addC
    split <;> rfl
  · rfl
theorem fits_take (st : Sb) (size : Int) (hu : 0 ≤ usedS st) : fitsS st size 0 = decide (takeErr st size = 0) := by
  unfold fitsS takeErr
  apply decide_eq_decide.2
  constructor
  · rintro ⟨h1, _, _, h4⟩
    rw [if_pos h1, if_pos (by omega)]
  · intro h
    by_cases h1 : size ≤ 2048
    · rw [if_pos h1] at h
      by_cases h2 : usedS st + bytesC (clsOf size) ≤ st.bud
      · exact ⟨h1, by omega, hu, by omega⟩
      · rw [if_neg h2] at h
        omega
    · rw [if_neg h1] at h
      omega
theorem fits_is (L : SlabLib Sl) {w0 w : World} {b : Nat} {own : Nat → Prop} {st : Sb} {B : Nat → Prop} {Q : World → Prop} (H : LawS Sl w0 w b own st B Q) (hs : Small st 10000) (size less : Int) (hz : I64 size) (hl : I64 less) (q : Bool) (hq : fitsS st size less = q) :
    Calls Try.prog 21 #[.pointer (some ⟨b, 0, none⟩), .int .i64 size, .int .i64 less] w fun en w' => en = .returned (.bool q) ∧ LawS Sl w0 w' b own st B Q :=
  (L.fits H.sl hs size less hz hl).mono fun _ _ ⟨h1, _, h3⟩ => ⟨by rw [h1, hq], H.step L h3⟩
set_option maxRecDepth 100000 in
set_option maxHeartbeats 4000000 in
theorem slabBudget_in (L : SlabLib Sl) (bud : Int) (hbud : I64 bud) (hb0 : 0 ≤ bud) {w : World} {a : Option Addr} {len cap : Nat} {os : List Op7} (h : OpsAt w a len cap os) (hlen : len ≤ 200) :
    Calls Try.prog 5 #[.int .i64 bud, .slice a len cap] w fun e w' => e = .returned (.bool true) ∧ Below w.heap.size w w' := by
  have hl := h.len_
  have hli : (len : Int) ≤ 200 := by omega
  obtain ⟨i0, hi, hz0, hz1, hz2⟩ := info_parts info_chunk
  have hB : Below w.heap.size w w := Below.refl _ _
  go_enter Try.func5, Try.ntmps5
  go_wp2_with (first
    | (go_at_call 8; refine (awake_any L _).mono ?_; rintro e w1 ⟨rfl, hb⟩; replace hB := Bt hB hb; clear hb)
    | (go_at_call 13; refine (new_is L bud hbud hB).mono ?_; clear hB; rintro e w2 ⟨b, own, rfl, H⟩))
  go_loopw [7, 8] (fun v i wr => ∃ (k : Nat) (own : Nat → Prop) (st : Sb), k ≤ len ∧ i = .int .i64 k ∧ Small st (2 * k) ∧ st.bud = bud ∧ Keeps Sl w wr b own st v (fun _ => False) (fun _ => True)) (fun _ i _ => len - (intOf i).toNat)
  case atStart => exact ⟨0, own, freshS bud, Nat.zero_le _, rfl, small_fresh bud, rfl, LawR.nil H⟩
  case round =>
    clear H
    obtain ⟨k, own, st, hk, rfl, hsm, hbd, HR⟩ := hrel
    by_cases hlt : k < len
    · obtain ⟨ca, off, rfl, hcell, hok⟩ := h.at k (by omega)
      have hcq := hcell.on (Nat.le_refl _) HR.law.below
      have q0 := hcq.kd
      have q1 := hcq.sz
      have q2 := hcq.n
      have q3 := hcq.raw
      have q4 := hcq.cls
      have q5 := hcq.no
      clear hcq hcell
      generalize os[k] = o at *
      obtain ⟨pv, cv, rfl⟩ := own_shape HR.row
      have hn := hsm.inn
      have H1 : Keeps Sl w (wr.alloc (.cells #[.int .i64 o.kd, .int .i64 o.sz, .int .i64 o.n, .bool o.raw, .int .i64 o.cls, .int .i64 o.no] 37)) b own st (.slice pv st.inn.length cv) (fun x => False ∨ x = wr.heap.size) (fun V => True ∧ V.heap[wr.heap.size]? = some (opO o)) := HR.box L (opO o)
      obtain ⟨cd, hcd⟩ : ∃ cd : Bool, decide (o.kd = 1 ∧ 0 < st.inn.length ∧ 0 ≤ o.n) = cd := ⟨_, rfl⟩
      go_upto_region 10 with fail
      go_cut [63] from 51 to 63 (fun q wx => q = .bool cd ∧ Keeps Sl w wx b own st (.slice pv st.inn.length cv) (fun x => False ∨ x = wr.heap.size) (fun V => True ∧ V.heap[wr.heap.size]? = some (opO o)))
      case first =>
        by_cases e1 : o.kd = 1
        · have e1b : (o.kd == 1) = true := beq_iff_eq.2 e1
          by_cases e2 : 0 < st.inn.length
          · have e2i : (0 : Int) < (st.inn.length : Int) := by omega
            by_cases e3 : 0 ≤ o.n
            · obtain rfl : true = cd := by rw [← hcd]; exact (decide_eq_true ⟨e1, e2, e3⟩).symm
              clear e1 hcd
              go_wp2_with fail
              go_meet
              exact ⟨by simp, H1⟩
            · obtain rfl : false = cd := by rw [← hcd]; exact (decide_eq_false fun x => e3 x.2.2).symm
              have e3n : o.n < 0 := by omega
              clear e1 hcd e3
              go_wp2_with fail
              go_meet
              exact ⟨by simp [e3n], H1⟩
          · obtain rfl : false = cd := by rw [← hcd]; exact (decide_eq_false fun x => e2 x.2.1).symm
            have e2n : ¬ (0 : Int) < (st.inn.length : Int) := by omega
            clear e1 hcd
            go_wp2_with fail
            go_meet
            exact ⟨by simp, H1⟩
        · obtain rfl : false = cd := by rw [← hcd]; exact (decide_eq_false fun x => e1 x.1).symm
          have e1b : (o.kd == 1) = false := beq_eq_false_iff_ne.2 e1
          clear e1 hcd
          go_wp2_with fail
          go_meet
          exact ⟨by simp, H1⟩
      case rest =>
        clear H1 HR q0 q1 q2 q3 q4 q5
        obtain ⟨rfl, HR⟩ := hcut
        go_upto_if 63 with fail
        go_cut [7, 10] from 64 to 92 (fun v _k wx => ∃ (own : Nat → Prop) (st : Sb), Small st (2 * k + 1) ∧ st.bud = bud ∧ Keeps Sl w wx b own st v (fun x => False ∨ x = wr.heap.size) (fun V => True ∧ V.heap[wr.heap.size]? = some (opO o)))
        case first =>
          cases cd with
          | false =>
            go_wp2_with fail
            go_meet
            exact ⟨own, st, small_mono hsm (by omega), hbd, HR⟩
          | true =>
            obtain ⟨-, e2, e3⟩ := of_decide_eq_true hcd
            clear hcd
            obtain ⟨g, cv', e4⟩ := own_form HR.row e2
            cases e4
            obtain ⟨kk, hkk⟩ : ∃ kk : Nat, o.n.tmod (st.inn.length : Int) = (kk : Int) := ⟨(o.n.tmod (st.inn.length : Int)).toNat, by have := Int.tmod_nonneg (st.inn.length : Int) e3; omega⟩
            have hkn : kk < st.inn.length := by have := Int.tmod_lt_of_pos o.n (show (0 : Int) < (st.inn.length : Int) by omega); omega
            obtain ⟨⟨x, y⟩, hxy⟩ : ∃ c, st.inn[kk] = c := ⟨_, rfl⟩
            have hgood := (L.good HR.law.sl).1
            have hsm2 : Small st 10000 := small_mono hsm (by omega)
            have hmem : (x, y) ∈ st.inn := by rw [← hxy]; exact List.getElem_mem hkn
            obtain ⟨hx, hy⟩ := inn_ok hgood hsm2 (x, y) hmem
            obtain ⟨f0, -, -, -, f4⟩ := free_in hgood hmem
            have hs1 := small_free hsm (x, y)
            have hs2 : Small (freeS st (x, y)) 10000 := small_mono hs1 (by omega)
            have hinn : (freeS st (x, y)).inn = st.inn.eraseIdx kk := by
              have hnd := (List.nodup_append.1 hgood.nodup).1
              unfold freeS
              rw [if_pos hmem, ← hxy]
              exact erase_idx hnd kk hkn
            have hbd1 : (freeS st (x, y)).bud = bud := by
              unfold freeS
              rw [if_pos hmem]
              exact hbd
            obtain ⟨t1, ht1⟩ : ∃ t, freeS st (x, y) = t := ⟨_, rfl⟩
            rw [ht1] at hs1 hs2 hinn hbd1 f4
            have F0 := hide f0
            have T1 := hide ht1
            have HN : Hid (decide ((x, y) ∈ t1.inn) = false) := decide_eq_false fun hm => ((f4 _).1 hm).2 rfl
            have HI := hide hinn
            have HXY := hide hxy
            obtain ⟨c0, c1⟩ := chunk_cells HR.row kk hkn
            rw [hxy] at c0 c1
            obtain ⟨o0, o1, o2⟩ := opO_cells HR.law.q.1.2
            have e2i : (0 : Int) < (st.inn.length : Int) := by omega
            clear hmem hgood f0 f4 hinn hxy ht1
            go_wp2_with (first
              | (go_at_call 17; refine (free_is L HR.law hsm2 x y hx hy 0 t1 F0.out T1.out).mono ?_; clear F0; rintro e w6 ⟨rfl, own6, H6⟩; replace HR := HR.to H6; clear H6; obtain ⟨c4, c5⟩ := chunk_cells HR.row kk hkn; rw [HXY.out] at c4 c5)
              | (go_at_call 19; refine (has_is L HR.law hs2 x y hx hy false HN.out).mono ?_; clear HN; rintro e w7 ⟨rfl, H7⟩; replace HR := HR.to H7; clear H7))
            have HRd := HR.step L (show w7.grownBy w7.drew none from ⟨rfl, rfl, rfl, Nat.le_refl _, fun _ _ _ => rfl⟩)
            have hbase := HRd.law.below.size
            have hcvn := own_cap HRd.row
            have hN1 := take_news HRd.row kk hkn
            have hl1 : ((cksV st.inn).take (kk * 2)).length = kk * 2 := by rw [List.length_take, cksV_len]; omega
            have hl2 : ((cksV st.inn).drop ((kk + 1) * 2)).length = (st.inn.length - (kk + 1)) * 2 := by rw [List.length_drop, cksV_len]; omega
            clear c0 c1 c4 c5 o0 o1 o2
            have hkc : kk ≤ cv := by omega
            have hk1 : kk + 1 ≤ st.inn.length := hkn
            have E0 : IntKind.i64.wrap ((kk : Int) + 1) = (kk : Int) + 1 := by
              simp [IntKind.wrap, IntKind.bits, IntKind.signed]
              omega
            have E1 : (0 : Int) ≤ (kk : Int) + 1 := by omega
            have E2 : (kk : Int) + 1 ≤ (st.inn.length : Int) := by omega
            have E3 : ((kk : Int) + 1).toNat = kk + 1 := by omega
            obtain ⟨ad, had, hN2⟩ := tail_news HRd.row kk hkn
            have hO1 : ∀ u ∈ (cksV st.inn).take (kk * 2), u.oneCell' = true := fun u hu => cksV_one _ u (List.mem_of_mem_take hu)
            have hO2 : ∀ u ∈ (cksV st.inn).drop ((kk + 1) * 2), u.oneCell' = true := fun u hu => cksV_one _ u (List.mem_of_mem_drop hu)
            go_region_held_law (fun _ => True) (trivial) ((first
              | (refine step_append_own_at _ 87 (by rfl) rfl _ _ 33 (by rfl) w.heap.size 35 i0 (.agg #[.int .i64 0, .int .i64 0]) 2 16 Try.underlying33 hi hz0 hz1 hz2 rfl (by decide) (.slice none 0 0) 0 [] (by rfl) (World.ownsRow_nil _ _ _ _) ⟨g, 0, none⟩ kk cv ((cksV st.inn).take (kk * 2)) (by rfl) hl1 hN1 hO1 (by unfold maxLen; omega) (by omega) hbase ?_; intro v1 w8 hown1 hgrow1 hat1)
              | (refine step_append_own_at _ 92 (by rfl) rfl _ _ 33 (by rfl) w.heap.size 35 i0 (.agg #[.int .i64 0, .int .i64 0]) 2 16 Try.underlying33 hi hz0 hz1 hz2 rfl (by decide) v1 _ _ (by rfl) hown1 ad (st.inn.length - (kk + 1)) (cv - (kk + 1)) ((cksV st.inn).drop ((kk + 1) * 2)) (by rfl) hl2 (hN2 _ hgrow1) hO2 (by unfold maxLen; omega) (by omega) (Nat.le_trans hbase hgrow1.size) ?_; intro v2 w9 hown2 hgrow2 hat2)))
            go_wp2_with fail
            go_meet
            obtain ⟨g1, g2⟩ := two_steps hgrow1 hat1 hgrow2 hat2
            refine ⟨own6, t1, hs1, hbd1, HRd.anew L g1 ?_ g2⟩
            rw [HI.out, ← cksV_erase, List.length_eraseIdx, if_pos hkn, show st.inn.length - 1 = 0 + kk + (st.inn.length - (kk + 1)) by omega]
            exact hown2
        case rest =>
          clear HR hsm hn hbd hcd
          obtain ⟨own1, st1, hsm, hbd, HR⟩ := hcut
          obtain ⟨o0, o1, o2⟩ := opO_cells HR.law.q.1.2
          go_upto_if 95 with fail
          go_cut [7, 11, 12, 13, 14, 15] from 93 to 144 (fun v _f _u _c _e _k wx => ∃ (own : Nat → Prop) (st : Sb), Small st (2 * k + 2) ∧ st.bud = bud ∧ Keeps Sl w wx b own st v (fun _ => False) (fun _ => True))
          case first =>
            by_cases e0 : o.kd = 0
            · have e0b : (o.kd == 0) = true := beq_iff_eq.2 e0
              clear e0
              have hzi := hok.sz
              have hgood := (L.good HR.law.sl).1
              have hsm2 : Small st1 10000 := small_mono hsm (by omega)
              have hs2 := small_take hsm o.sz
              have hub := used_bound hsm
              obtain ⟨u0, hu0⟩ : ∃ u, usedS st1 = u := ⟨_, rfl⟩
              obtain ⟨⟨x, y⟩, hc⟩ : ∃ c, takeCk st1 o.sz = c := ⟨_, rfl⟩
              obtain ⟨t, ht⟩ : ∃ t, takeS st1 o.sz = t := ⟨_, rfl⟩
              have hbd2 : t.bud = bud := by rw [← ht, take_bud']; exact hbd
              have hfit := fits_take st1 o.sz (by rw [hu0] at hub ⊢; exact hub.1)
              have HU := hide hu0
              have HT := hide ht
              have HC := hide hc
              rw [ht] at hs2
              obtain ⟨pv1, cv1, rfl⟩ := own_shape HR.row
              by_cases he : takeErr st1 o.sz = 0
              · have hinn := take_zero he
                rw [ht, hc] at hinn
                have HI := hide hinn
                have HE := hide he
                have HF : Hid (fitsS st1 o.sz 0 = true) := by show fitsS st1 o.sz 0 = true; rw [hfit]; exact decide_eq_true he
                have hnew : ¬ (x, y) ∈ st1.inn := by
                  rw [← hc]
                  unfold takeCk
                  rw [if_pos he]
                  exact next_new hgood _
                have HNEW := hide hnew
                clear hc ht he hinn hfit hnew hu0
                go_wp2_with (first
                  | (go_at_call 21; refine (fits_is L HR.law hsm2 o.sz 0 hzi (i64_lit _) true HF.out).mono ?_; rintro e w3 ⟨rfl, H3⟩; replace HR := HR.to H3; clear H3)
                  | (go_at_call 23; refine (used_is L HR.law hsm2 u0 HU.out).mono ?_; rintro e w4 ⟨rfl, H4⟩; replace HR := HR.to H4; clear H4; obtain ⟨o3, o4, o5⟩ := opO_cells HR.law.q.1.2)
                  | (go_at_call 15; refine (take_is L HR.law hsm2 o.sz hzi x y 0 t HC.out HE.out HT.out).mono ?_; rintro e w5 ⟨rfl, own5, H5⟩; replace HR := (HR.to H5).less.box L (.cells #[.int .i64 x, .int .i64 y] 35); clear H5))
                clear o0 o1 o2 o3 o4 o5
                go_loopw [15] (fun i wx => ∃ j : Nat, j ≤ st1.inn.length ∧ i = .int .i64 j ∧ LawR Sl w wx b own5 t 35 2 (.slice pv1 st1.inn.length cv1) st1.inn.length (cksV st1.inn) (fun k => False ∨ k = w5.heap.size) (fun V => True ∧ V.heap[w5.heap.size]? = some (.cells #[.int .i64 x, .int .i64 y] 35))) (fun i _ => st1.inn.length - (intOf i).toNat)
                case atStart => exact ⟨0, Nat.zero_le _, rfl, HR⟩
                case round =>
                  clear HR
                  obtain ⟨j, hj, rfl, HR⟩ := hrel
                  have hn1 := hsm.inn
                  obtain ⟨b0, b1⟩ := cells2 HR.law.q.1.2
                  by_cases hjn : j < st1.inn.length
                  · obtain ⟨g1, cv2, e4⟩ := own_form HR.row (by omega)
                    cases e4
                    obtain ⟨⟨u, v⟩, huv⟩ : ∃ c, st1.inn[j] = c := ⟨_, rfl⟩
                    obtain ⟨c0, c1⟩ := chunk_cells HR.row j hjn
                    rw [huv] at c0 c1
                    have hne : ¬ (u = x ∧ v = y) := fun e => HNEW.out (by rw [← e.1, ← e.2, ← huv]; exact List.getElem_mem hjn)
                    clear huv
                    by_cases hux : u = x
                    · subst hux
                      have hvy : ¬ v = y := fun e => hne ⟨rfl, e⟩
                      have hvb : (v == y) = false := beq_eq_false_iff_ne.2 hvy
                      clear hne
                      go_wp2
                      go_quiet (fail)
                      go_wp2
                      go_roundw
                      case rel => exact ⟨j + 1, by omega, by go_num, HR.step L ⟨rfl, rfl, rfl, Nat.le_refl _, fun _ _ _ => rfl⟩⟩
                      case measure => simp [intOf]; omega
                    · have hub2 : (u == x) = false := beq_eq_false_iff_ne.2 hux
                      clear hne
                      go_wp2
                      go_quiet (fail)
                      go_wp2
                      go_roundw
                      case rel => exact ⟨j + 1, by omega, by go_num, HR.step L ⟨rfl, rfl, rfl, Nat.le_refl _, fun _ _ _ => rfl⟩⟩
                      case measure => simp [intOf]; omega
                  · obtain rfl : j = st1.inn.length := by omega
                    have HRow := hide HR.row
                    go_wp2_with (at_builtin; refine wpList_append_own_at _ rfl _ _ 33 rfl w.heap.size 35 i0 (.agg #[.int .i64 0, .int .i64 0]) 2 16 Try.underlying33 hi hz0 hz1 hz2 rfl (by decide) _ _ _ rfl (HRow.out.alloc _) ⟨_, 0, none⟩ 1 1 [_, _] rfl rfl (cell_two_new _ _ _ _) (by simp [Value.oneCell']) (by unfold maxLen; omega) (by omega) (hbase2 HR.law.below.size) ?_; intro v' w7 hown' hgrow _ hat; have H7 := (HR.app L hown' hgrow hat).less)
                    go_meet
                    refine ⟨own5, t, hs2, hbd2, ?_⟩
                    show LawR _ _ _ _ _ _ _ _ _ _ _ _ _
                    rw [HI.out, List.length_append, cksV_app]
                    exact H7
              · have hst := take_not he
                rw [ht] at hst
                subst hst
                obtain ⟨er, her⟩ : ∃ er, takeErr t o.sz = er := ⟨_, rfl⟩
                have hne : (er == 0) = false := by rw [← her]; exact beq_eq_false_iff_ne.2 he
                have hne2 : ¬ er = 0 := by rw [← her]; exact he
                have hne3 : (er != 0) = true := bne_iff_ne.2 hne2
                have HF : Hid (fitsS t o.sz 0 = false) := by show fitsS t o.sz 0 = false; rw [hfit]; exact decide_eq_false he
                have HE := hide her
                clear hc ht he hfit hu0 her
                go_wp2_with (first
                  | (go_at_call 21; refine (fits_is L HR.law hsm2 o.sz 0 hzi (i64_lit _) false HF.out).mono ?_; rintro e w3 ⟨rfl, H3⟩; replace HR := HR.to H3; clear H3)
                  | (go_at_call 23; refine (used_is L HR.law hsm2 u0 HU.out).mono ?_; rintro e w4 ⟨rfl, H4⟩; replace HR := HR.to H4; clear H4; obtain ⟨o3, o4, o5⟩ := opO_cells HR.law.q.1.2)
                  | (go_at_call 15; refine (take_is L HR.law hsm2 o.sz hzi x y er t HC.out HE.out HT.out).mono ?_; rintro e w5 ⟨rfl, own5, H5⟩; replace HR := (HR.to H5).less.step L (World.grownBy_alloc w5 (.cells #[.int .i64 x, .int .i64 y] 35) none); clear H5))
                clear o0 o1 o2 o3 o4 o5
                go_loopw [15] (fun i wx => i = .int .i64 0 ∧ LawR Sl w wx b own5 t 35 2 (.slice pv1 t.inn.length cv1) t.inn.length (cksV t.inn) (fun _ => False) (fun _ => True)) (fun i _ => (intOf i).toNat)
                case atStart => exact ⟨rfl, HR⟩
                case round =>
                  clear HR
                  obtain ⟨rfl, HR⟩ := hrel
                  by_cases hn0 : 0 < t.inn.length
                  · have hn0i : (0 : Int) < (t.inn.length : Int) := by omega
                    go_wp2_with (go_at_call 23; refine (used_is L HR.law hsm2 u0 HU.out).mono ?_; rintro e w6 ⟨rfl, H6⟩; replace HR := HR.to H6; clear H6)
                    go_meet
                    exact ⟨own5, t, hs2, hbd2, HR⟩
                  · have hn0i : ¬ (0 : Int) < (t.inn.length : Int) := by omega
                    go_wp2_with (go_at_call 23; refine (used_is L HR.law hsm2 u0 HU.out).mono ?_; rintro e w6 ⟨rfl, H6⟩; replace HR := HR.to H6; clear H6)
                    go_meet
                    exact ⟨own5, t, hs2, hbd2, HR⟩
            · have e0b : (o.kd == 0) = false := beq_eq_false_iff_ne.2 e0
              go_wp2_with fail
              go_meet
              exact ⟨own1, st1, small_mono hsm (by omega), hbd, HR.less⟩
          case rest =>
            clear HR hsm hbd o0 o1 o2
            obtain ⟨own2, st2, hsm, hbd, HR⟩ := hcut
            have hn2 := hsm.inn
            have hsm2 : Small st2 10000 := small_mono hsm (by omega)
            have hgood := (L.good HR.law.sl).1
            obtain ⟨pv2, cv2, rfl⟩ := own_shape HR.row
            go_wp2
            go_loopw [16, 17] (fun m i wx => ∃ j : Nat, j ≤ st2.inn.length ∧ i = .int .i64 j ∧ m = .int .i64 (sumB (st2.inn.take j)) ∧ LawR Sl w wx b own2 st2 35 2 (.slice pv2 st2.inn.length cv2) st2.inn.length (cksV st2.inn) (fun _ => False) (fun _ => True)) (fun _ i _ => st2.inn.length - (intOf i).toNat)
            case atStart => exact ⟨0, Nat.zero_le _, rfl, rfl, HR⟩
            case round =>
              clear HR
              obtain ⟨j, hj, rfl, rfl, HR⟩ := hrel
              by_cases hjn : j < st2.inn.length
              · obtain ⟨g1, cv3, e4⟩ := own_form HR.row (by omega)
                cases e4
                obtain ⟨⟨u, v⟩, huv⟩ : ∃ c, st2.inn[j] = c := ⟨_, rfl⟩
                have hmem : (u, v) ∈ st2.inn := by rw [← huv]; exact List.getElem_mem hjn
                obtain ⟨hu, hv⟩ := inn_ok hgood hsm2 (u, v) hmem
                obtain ⟨c0, c1⟩ := chunk_cells HR.row j hjn
                rw [huv] at c0 c1
                have hS : sumB (st2.inn.take (j + 1)) = sumB (st2.inn.take j) + bytesC u := by
                  rw [List.take_succ_eq_append_getElem hjn, sumB_app, huv, sumB_one]
                have l1 := sumB_nonneg (st2.inn.take j)
                have l2 := sumB_le (st2.inn.take j)
                have l3 : (st2.inn.take j).length ≤ j := by rw [List.length_take]; omega
                have l4 := bytes_nonneg u
                have l5 := bytes_le u
                obtain ⟨bu, hbu⟩ : ∃ m, bytesC u = m := ⟨_, rfl⟩
                rw [hbu] at hS l4 l5
                have HBU := hide hbu
                have HSS := hide hS
                generalize sumB (st2.inn.take j) = sm at *
                have hw : wrap64 (sm + bu) = sm + bu := by unfold wrap64; omega
                clear hbu hS huv hmem
                go_wp2_with (go_at_call 11; refine (L.bytes u hu _).mono ?_; rintro e w8 ⟨he, hg8⟩; rw [HBU.out] at he; subst he; replace HR := HR.step L hg8; clear hg8)
                go_roundw
                case rel => exact ⟨j + 1, by omega, by go_num, by rw [HSS.out], HR⟩
                case measure => simp [intOf]; omega
              · obtain rfl : j = st2.inn.length := by omega
                rw [List.take_length]
                have HU2 : Hid (usedS st2 = sumB st2.inn) := rfl
                have hle : sumB st2.inn ≤ bud := by
                  rcases hgood.bud with e | e
                  · rw [e]; exact hb0
                  · rw [hbd] at e; exact e
                generalize sumB st2.inn = sm at *
                go_wp2_with (go_at_call 23; refine (used_is L HR.law hsm2 sm HU2.out).mono ?_; rintro e w9 ⟨rfl, H9⟩; replace HR := HR.to H9; clear H9)
                go_roundw
                case rel => exact ⟨k + 1, own2, st2, by omega, by go_num, small_mono hsm (by omega), hbd, HR⟩
                case measure => simp [intOf]; omega
    · have hB := HR.law.below
      go_wp2
      go_ret
      exact ⟨rfl, hB⟩
set_option maxRecDepth 100000 in
set_option maxHeartbeats 2000000 in
theorem slabBudget_out (L : SlabLib Sl) (bud : Int) (hbud : I64 bud) {w : World} {a : Option Addr} {len cap : Nat} (hlen : 200 < (len : Int) ∨ ((len : Int) ≤ 200 ∧ bud < 0)) :
    Calls Try.prog 5 #[.int .i64 bud, .slice a len cap] w fun e w' => e = .returned (.bool true) ∧ Below w.heap.size w w' := by
  have hB : Below w.heap.size w w := Below.refl _ _
  rcases hlen with hli | ⟨hli, hb0⟩
  · go_enter Try.func5, Try.ntmps5
    go_wp2_with (first
      | (go_at_call 8; refine (awake_any L _).mono ?_; rintro e w1 ⟨rfl, hb⟩; replace hB := Bt hB hb; clear hb)
      | (go_at_call 13; refine (new_is L bud hbud hB).mono ?_; clear hB; rintro e w2 ⟨b, own, rfl, H⟩; have hB := H.below))
    go_ret
    exact ⟨rfl, hB⟩
  · go_enter Try.func5, Try.ntmps5
    go_wp2_with (first
      | (go_at_call 8; refine (awake_any L _).mono ?_; rintro e w1 ⟨rfl, hb⟩; replace hB := Bt hB hb; clear hb)
      | (go_at_call 13; refine (new_is L bud hbud hB).mono ?_; clear hB; rintro e w2 ⟨b, own, rfl, H⟩; have hB := H.below))
    go_ret
    exact ⟨rfl, hB⟩
theorem slabBudget_walk (L : SlabLib Sl) (W : World) (a0 : Int) (w0 : (Lit.int .i64 a0).wf = true) (a1 : Option Addr) (len1 cap1 : Nat) (z1 : List Op7) (w1 : OpsAt W a1 len1 cap1 z1) :
    Calls Try.prog 5 #[.int .i64 a0, .slice a1 len1 cap1] W fun e W' => e = .returned (.bool true) ∧ Below W.heap.size W W' := by
  by_cases h : len1 ≤ 200
  · by_cases hb : 0 ≤ a0
    · exact slabBudget_in L a0 (i64_wf w0) hb w1 h
    · exact slabBudget_out L a0 (i64_wf w0) (.inr ⟨by omega, by omega⟩)
  · exact slabBudget_out L a0 (i64_wf w0) (.inl (by omega))
end Go.Proofs.Ytdjagifmcimedaa
