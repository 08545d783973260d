/- ShardDoes returns true for every input, and writes nothing that was there. Conditions: the contracts of package shard. -/
import Derived.Test.YtckjjfkfapfdaaaGreatG47Joined
import Derived.Test.YtckjjfkfapfdaaaGreatG42Joined
import Derived.Deep.RegionHeldLaw
import Derived.Deep.QuietTactic
import Derived.BigQuiet
namespace Go.Proofs.YtckjjfkfapfdaaaGreat
open Go.RowKit Go.Shelf
variable {Sh : World → Nat → (Nat → Prop) → Nat → Nat → Hs → Prop}

abbrev SD (r sp N cb : Nat) (pb : Option Addr) (w : World) : Prop := w.cell? ⟨r, 1, none⟩ = some (.pointer (some ⟨sp, 0, none⟩)) ∧ w.cell? ⟨r, 0, none⟩ = some (.slice pb N cb)
theorem RefAt.sd {w0 w : World} {r sd : Nat} {P : Rp} {st : Hs} {R : Part} (H : RefAt w0 w r sd P st R) {N cb : Nat} {pb : Option Addr} (hv : P.vL = .slice pb N cb) : SD r P.sp N cb pb w := ⟨H.cells.2.1, by rw [← hv]; exact H.cells.1⟩
theorem small_more {st : Sb} (h : Small st 9000) : Small st 10000 := ⟨by have := h.inn; omega, by have := h.gone; omega, fun m hm => by have := h.made m hm; omega⟩
set_option maxRecDepth 100000 in
set_option maxHeartbeats 8000000 in
theorem shardDoes_in (L : ShardLib Sh) (sd : Nat) (hd : sd < 18446744073709551616) (bud most : Int) (hbu : I64 bud) (hmo : I64 most) {w : World} {a : Option Addr} {len cap : Nat} {os : List Op11} (h : OpsAt w a len cap os) (hS : FewL os) :
    Calls Tryz.prog 3 #[.int .u64 sd, .int .i64 bud, .int .i64 most, .slice a len cap] w fun e w' => e = .returned (.bool true) ∧ Below w.heap.size w w' := by
  have hl := h.len_
  have hlen : len ≤ 80 := by rw [← hl]; exact hS.1
  have HB := Law.start w
  go_enter Tryz.func3, Tryz.ntmps3
  go_wp2_with (first
    | (go_at_call 8; refine (awake_any L _).mono ?_; rintro e w1 ⟨rfl, hb⟩; replace HB := HB.step (below_gr' hb); clear hb)
    | (go_at_call 9; refine (few_any (h.on HB.below)).mono ?_; rintro e w2 ⟨⟨q, rfl, hq⟩, hg⟩; obtain rfl : q = true := hq.2 hS; replace HB := HB.step hg; clear hg hq)
    | (go_at_call 10; refine (shNew_is L HB sd bud most hd hbu hmo).mono ?_; clear HB; rintro e w3 ⟨b, own, rfl, H⟩)
    | (go_at_call 11; refine (rnew11_any H sd bud most).mono ?_; clear H; rintro e w4 ⟨r, P, rfl, H⟩))
  go_loopw [13, 14, 15] (fun i' x14 x15 wr => ∃ (k n : Nat) (own : Nat → Prop) (P : Rp) (st : Hs), k ≤ len ∧ n ≤ k ∧ i' = .int .i64 k ∧ st.slab.bud = bud ∧ RefAt w wr r sd P st ((shQ L b own sd n st).and Part.emp)) (fun i' _ _ _ => len - (intOf i').toNat)
  case atStart => exact ⟨0, 0, own, P, _, Nat.zero_le _, Nat.le_refl _, rfl, rfl, H⟩
  case round =>
    clear H
    obtain ⟨k, n, own, P, st, hk', hnk, rfl, hsb, H⟩ := hrel
    by_cases hlt : k < len
    · obtain ⟨ca, off, rfl, hcell, hok⟩ := h.at k (by omega)
      have hvi := hS.ok (List.getElem_mem (by omega)) hok
      have hki : (k : Int) < (len : Int) := by omega
      obtain ⟨o, ho⟩ : ∃ o, os[k] = o := ⟨_, rfl⟩
      rw [ho] at hcell hok hvi
      have hrg : wr.rangeAt ca (off + k * 15) o.cells := (hcell.on (Nat.le_refl _) H.law.below).all
      have hbs := hok.bs
      have hen := hok.en
      have hbu2 : I64 st.slab.bud := by rw [hsb]; exact hbu
      replace H := hide H
      clear ho hcell hok
      go_upto_region 11 with (first
        | (refine wpList_load_mid rfl 38 _ rfl ca (off + k * 15) rfl o.cells _ hrg Tryz.underlying38 rfl (op_size o) ?_)
        | (go_at_call 12; refine (do_any L H.out (by omega) hbu2 o hvi hen hbs).mono ?_; rintro e w5 ⟨rfl, P5, own5, n5, st5, hn5, hb5, H5⟩; clear H hrg))
      have hb6 : st5.slab.bud = bud := hb5.trans hsb
      have hG := H5.shG
      have hn9 : n5 ≤ 900 := by omega
      obtain ⟨N, hN⟩ : ∃ N, P5.es.length = N := ⟨_, rfl⟩
      have hNe : st5.ents.length = N := by rw [← hN]; exact H5.len.symm
      have hN9 : N ≤ 900 := by have := hG.len.1; omega
      obtain ⟨pb, cb, hv, hc1, hc2⟩ := H5.slice hN
      unfold maxLen at hc2
      have HV := hide hv
      have HNE : Hid ((st5.ents.length : Int) = (N : Int)) := by show _ = _; rw [hNe]
      have HN := hide hNe
      have HBud := hide hb6
      have HX : Hid (st5.ents.map Prod.fst = P5.es.map fun e => e.t.iv) := by
        show _ = _
        rw [← H5.ents, List.map_map]
        rfl
      have HSM := hide (small_more (hG.slabSmall hn9))
      obtain ⟨U, hU⟩ : ∃ U, usedS st5.slab = U := ⟨_, rfl⟩
      have HU := hide hU
      have H := hide H5.drew
      clear hb6 hb5 hsb hbu2 hv hN hNe H5 hG hU
      go_region_held (SD r P5.sp N cb pb) (exact H.out.sd HV.out) (first
        | (go_at_call 14; refine (bAll L H.out hn9 (by rw [HN.out]; omega)).mono ?_; rintro e w6 ⟨v6, xs, rfl, hxs, H6⟩; replace H := hide H6; have HXS := hide (hxs.trans HX.out); clear H6 hxs)
        | (go_at_call 13; rw [← HV.out]; refine (items_any H.out HXS.out).mono ?_; rintro e w7 ⟨rfl, hg⟩; replace H := hide (H.out.step hg); clear hg))
      replace H := hide H.out.less.drew
      go_upto_region 12 with fail
      go_region_held (SD r P5.sp N cb pb) (exact H.out.sd HV.out) (first
        | (go_at_call 15; refine (bUsed L H.out hn9 _ HU.out).mono ?_; rintro e w8 ⟨rfl, H8⟩; replace H := hide H8; clear H8)
        | (go_at_call 16; refine (rused_any H.out.slab HSM.out).mono ?_; rintro e w9 ⟨rfl, rfl⟩; rw [HU.out])
        | (go_at_call 17; refine (bLen L H.out hn9 _ HNE.out).mono ?_; rintro e w10 ⟨rfl, H10⟩; replace H := hide H10; clear H10))
      all_goals
        go_wp2
        go_roundw
        case rel => exact ⟨k + 1, n5, own5, P5, st5, by omega, by omega, by go_num, HBud.out, H.out⟩
        case measure => simp [intOf]; omega
    · have hlt2 : ¬ ((k : Int) < (len : Int)) := by omega
      obtain ⟨l, hl2⟩ : ∃ l, st.drops = l := ⟨_, rfl⟩
      have hl9 : l.length ≤ 140737488351232 := by rw [← hl2]; have := H.shG.len.2.1; omega
      have HL := hide hl2
      replace H := hide H
      clear hl2
      go_wp2_with (first
        | (go_at_call 19; refine (bDrops L H.out _ HL.out).mono ?_; rintro e w2 ⟨v, own2, rfl, H2⟩; replace H := hide H2; clear H2)
        | (go_at_call 20; refine (rdrops_any H.out _ HL.out).mono ?_; rintro e w3 ⟨P3, rfl, H3⟩; replace H := hide H3; clear H3; have hv1 := hide (holds_own (show _ from H.out.law.q.2.1.2.1.1)); have hv2 := hide (holds_own (show _ from H.out.law.q.2.1.1)))
        | (go_at_call 18; refine (same_eq _ _ _ l hl9 hv1.out hv2.out).mono ?_; rintro e w4 ⟨rfl, hg⟩; replace H := hide (H.out.step hg); clear hg))
      go_ret
      exact ⟨rfl, H.out.law.below⟩
set_option maxRecDepth 100000 in
set_option maxHeartbeats 4000000 in
theorem shardDoes_out (L : ShardLib Sh) (sd : Nat) (hd : sd < 18446744073709551616) (bud most : Int) (hbu : I64 bud) (hmo : I64 most) {w : World} {a : Option Addr} {len cap : Nat} {os : List Op11} (h : OpsAt w a len cap os) (hs : ¬ FewL os) :
    Calls Tryz.prog 3 #[.int .u64 sd, .int .i64 bud, .int .i64 most, .slice a len cap] w fun e w' => e = .returned (.bool true) ∧ Below w.heap.size w w' := by
  have HB := Law.start w
  go_enter Tryz.func3, Tryz.ntmps3
  go_wp2_with (first
    | (go_at_call 8; refine (awake_any L _).mono ?_; rintro e w1 ⟨rfl, hb⟩; replace HB := HB.step (below_gr' hb); clear hb)
    | (go_at_call 9; refine (few_any (h.on HB.below)).mono ?_; rintro e w2 ⟨⟨q, rfl, hq⟩, hg⟩; obtain rfl : q = false := Bool.eq_false_iff.2 fun e => hs (hq.1 e); replace HB := HB.step hg; clear hg hq)
    | (go_at_call 10; refine (shNew_is L HB sd bud most hd hbu hmo).mono ?_; clear HB; rintro e w3 ⟨b, own, rfl, H⟩))
  go_ret
  exact ⟨rfl, H.below⟩
theorem shardDoes_walk (L : ShardLib Sh) (W : World) (a0 : Int) (w0 : (Lit.int .u64 a0).wf = true) (a1 : Int) (w1 : (Lit.int .i64 a1).wf = true) (a2 : Int) (w2 : (Lit.int .i64 a2).wf = true) (a3 : Option Addr) (len3 cap3 : Nat) (z3 : List Op11) (w3 : OpsAt W a3 len3 cap3 z3) :
    Calls Tryz.prog 3 #[.int .u64 a0, .int .i64 a1, .int .i64 a2, .slice a3 len3 cap3] W fun e W' => e = .returned (.bool true) ∧ Below W.heap.size W W' := by
  obtain ⟨h0, h1⟩ := u64_wf w0
  obtain ⟨sd, rfl⟩ := Int.eq_ofNat_of_zero_le h0
  by_cases h : FewL z3
  · exact shardDoes_in L sd (by omega) a1 a2 (i64_wf w1) (i64_wf w2) w3 h
  · exact shardDoes_out L sd (by omega) a1 a2 (i64_wf w1) (i64_wf w2) w3 h
end Go.Proofs.YtckjjfkfapfdaaaGreat
