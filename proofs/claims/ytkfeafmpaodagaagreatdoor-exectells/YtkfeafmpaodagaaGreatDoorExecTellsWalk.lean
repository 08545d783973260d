/- ExecTells returns true for every input, and writes nothing that was there. Conditions: the contracts of package shard; the variables of package num. -/
import Derived.Test.YtkfeafmpaodagaaGreatDoorG53Joined
import Derived.Test.YtkfeafmpaodagaaGreatDoorTell12
namespace Go.Proofs.YtkfeafmpaodagaaGreatDoor
set_option linter.unusedVariables false
set_option linter.unusedSimpArgs false
open Go.RowKit Go.Shelf Go.Sort
variable {Sh : World → Nat → (Nat → Prop) → Nat → Nat → Hs → Prop}

set_option maxRecDepth 100000 in
set_option maxHeartbeats 16000000 in
theorem execTells_walk (L : ShardLib Sh) (w : World) (a : Option Addr) (len cap : Nat) (os : List Op12) (ho : OpsAt w a len cap os) (hlen : len ≤ 1099511627744) (hnil : a = none → len = 0 ∧ cap = 0) (o : Op12) (hok : o.ok w) (hLd : Laid w) :
    Calls Tryz.prog 4 #[.slice a len cap, .agg (opA o)] w fun e w' => e = .returned (.bool true) ∧ Below w.heap.size w w' := by
  have hz : (Tryz.prog.info? 37).map (fun i => (i.zero, i.size, i.bytes)) = some (some (.agg (o0.cells).toArray), 14, 128) := by kernel_rfl
  obtain ⟨i0, hi, hz0, hz1, hz2⟩ := info_parts hz
  have HS := (Law.start w).box (.cells (opA o) 37)
  have HA := hide (fun W (HW : Law w W ((boxP w.heap.size (.cells (opA o) 37)).and Part.emp)) => awake_any L HW hLd)
  have HD := hide (fun W (HW : Law w W ((boxP w.heap.size (.cells (opA o) 37)).and Part.emp)) => done_any L HW hLd ho)
  have HR := hide (fun W (hb : Below w.heap.size w W) => (ho.on hb).1.1)
  have hol := ho.len_
  have HOK := hide hok
  have hm := ho.2
  go_enter Tryz.func4, Tryz.ntmps4
  go_upto_region 2 with (go_at_call 5; refine (HA.out _ HS).mono ?_; rintro e w1 ⟨rfl, H1⟩; clear HA HS)
  have H1d := H1.drew
  have hO1 := hasO_of H1.q.1
  have hO1d := hasO_of H1d.q.1
  have hB1 : w1.heap.size ≤ w1.drew.heap.size := Nat.le_refl _
  have f63 : os.length + 1 ≤ maxLen := by unfold maxLen; omega
  have fby : (os.length + 1) * 128 ≤ 140737488355328 := by omega
  have hd1 : w1.grownBy w1.drew none := ⟨rfl, rfl, rfl, Nat.le_refl _, fun _ _ _ => rfl⟩
  have hol2 : os.length ≤ 1099511627744 := by omega
  have HALL := hide ho.1.2
  have HSZ : (Tryz.prog.info? 37).map (·.size) = some (opA o).toList.length := by rw [hi]; exact congrArg some hz1
  refine region_htail (S := fun W' => HasO w.heap.size o W') 4 (by kernel_rfl) (by simp) (by kernel_rfl) ?_
  simp only [List.take_succ_cons, List.take_zero, List.drop_succ_cons, List.drop_zero]
  refine take_at 0 13 (v := .slice a len cap) rfl rfl (by kernel_rfl) (by kernel_rfl) (by kernel_rfl) (fun _ _ _ h => h) (Or.inl ⟨by rfl, fun W hW => by go_simp⟩) hO1d ?_
  simp only [Act.put, List.setIfInBounds_toArray, List.set_cons_zero, List.set_cons_succ]
  refine take_at 2 15 (v := .agg (opA o)) rfl rfl (by kernel_rfl) (by kernel_rfl) (by kernel_rfl) (fun _ _ _ h => h) (yieldsIf_load_mid (by rfl) 37 _ rfl w.heap.size 0 rfl (opA o).toList _ (fun W hW => hasO_range hW) Tryz.underlying37 rfl HSZ) hO1d ?_
  simp only [Act.put, List.setIfInBounds_toArray, List.set_cons_zero, List.set_cons_succ]
  refine wpAnyH_all (rs := [1, 3]) (by kernel_rfl) (by simp) ?_
  intro i hi13
  obtain rfl | rfl : i = 1 ∨ i = 3 := by simpa using hi13
  · refine wpOp_plain rfl rfl ?_
    refine oper_append_ops _ 14 rfl _ _ rfl w1.heap.size (by rfl) (by rfl) (HR.out _ H1d.below) hol hlen hnil hB1 ?_
    intro v8 w8 hown8 hg8
    refine ⟨hasO_grown hO1d hg8, ?_⟩
    simp only [Act.put, List.setIfInBounds_toArray, List.set_cons_zero, List.set_cons_succ]
    refine one_at 3 (by kernel_rfl) rfl rfl ?_
    refine wp_buildSlice 23 37 1 _ rfl (opA o) i0 _ Tryz.underlying23 hi hz0 (by rw [hz1]; decide) (by rw [hz1]; decide) (by rw [hz1]; kernel_rfl) ?_
    refine ⟨hasO_grown (hasO_grown hO1d hg8) (World.grownBy_alloc _ _ none), ?_⟩
    simp only [Act.put, List.setIfInBounds_toArray, List.set_cons_zero, List.set_cons_succ]
    refine wpAnyH_done (by kernel_rfl) ?_ _
    have R8 := hown8.alloc (.cells (opA o) 37)
    have G8 := grown_two (grown_two hd1 hg8) (World.grownBy_alloc w8 (.cells (opA o) 37) none)
    have N8 := news_of (hasO_new w8 o)
    have B8 : w1.heap.size ≤ (w8.alloc (.cells (opA o) 37)).heap.size := G8.size
    clear hown8 hg8
    obtain ⟨g8, hg8⟩ : ∃ g8, w8.heap.size = g8 := ⟨_, rfl⟩
    rw [hg8] at N8 ⊢
    clear hg8
    generalize w8.alloc (.cells (opA o) 37) = W8 at *
    change wpList _ _ _ _ _ _
    refine wpList_append_own_at _ rfl _ _ 23 rfl w1.heap.size 37 i0 (.agg (o0.cells).toArray) 14 128 Tryz.underlying23 hi hz0 hz1 hz2 rfl (by decide) v8 os.length (opsV os) rfl R8 ⟨g8, 0, none⟩ 1 1 o.cells rfl rfl N8 (op_one o) f63 fby B8 ?_
    intro v9 w9 hown9 hg9 hx9 hat9
    obtain ⟨a9, c9, rfl, hO9, hg1⟩ := tells_row H1 G8 R8 hol2 HALL.out HOK.out hown9 hg9
    clear hown9 hg9 hat9 hx9 R8 N8 B8 G8
    have HF := hide (few_any hO9)
    have H1' := hide (H1.step hg1)
    clear hO9 hg1 H1 H1d hO1 hO1d HR HALL hok ho hz hi hz0 hz1 hz2 HSZ hol hlen hnil hB1 f63 fby hd1 hol2 hi13
    go_upto_region 4 with (first
      | (go_at_call 6; refine HF.out.mono ?_; rintro e w10 ⟨⟨fq, rfl, hfq⟩, hg10⟩; have H2 := H1'.out.step hg10; clear HF H1' hg10)
      | (go_at_call 20; refine (HD.out _ H2).mono ?_; rintro e w3 ⟨b, own, n, st, rfl, hnl, hbd, H3⟩; clear H2 HD))
    have HX := hide H3.below
    obtain ⟨z0, z1, z2, z3, z4, -, -, -, -, -, z10, z11, -, -⟩ := hasO_of H3.right.q.1
    cases fq
    case false =>
      go_wp2
      go_ret
      exact ⟨rfl, HX.out⟩
    by_cases p1 : o.cv.op < 3
    · go_wp2
      go_ret
      exact ⟨rfl, HX.out⟩
    by_cases p2 : 5 < o.cv.op
    · go_wp2
      go_ret
      exact ⟨rfl, HX.out⟩
    by_cases p3 : o.en.now < 1
    · go_wp2
      go_ret
      exact ⟨rfl, HX.out⟩
    by_cases p4 : o.cv.exp < 0
    · go_wp2
      go_ret
      exact ⟨rfl, HX.out⟩
    by_cases p5 : 2592000 < o.cv.exp
    · go_wp2
      go_ret
      exact ⟨rfl, HX.out⟩
    obtain ⟨⟨hk3, hv2, -, -⟩, -, hnow⟩ := (hfq.1 rfl).2 o (by simp)
    have hn3 : n ≤ 2199023255552 := Nat.le_trans hnl hm
    have hen : (En.mk o.en.now o.en.seq 0 0).ok := ⟨HOK.out.en.now, HOK.out.en.seq, z64, zu64⟩
    obtain ⟨r1, t1, r2, t2, q1, q2, z⟩ := tells_ex (c := o.cv) (en := ⟨o.en.now, o.en.seq, 0, 0⟩) (L.good H3.q.1) 7 (by omega) rfl (by omega) (by omega) (by show 1 ≤ o.en.now; omega) hnow
    have Q1 := hide q1
    have Q2 := hide q2
    have HZ := hide z
    have hcm := hasO_cm (hasO_of (H3.box (.cells (enC ⟨o.en.now, o.en.seq, 0, 0⟩) 35)).right.right.q.1)
    clear q1 q2 z hm hnl hfq
    go_upto_region 7 with fail
    obtain ⟨w4, hw4⟩ : ∃ w4, w3.alloc (.cells (enC ⟨o.en.now, o.en.seq, 0, 0⟩) 35) = w4 := ⟨_, rfl⟩
    have H4 := (H3.box (.cells (enC ⟨o.en.now, o.en.seq, 0, 0⟩) 35)).rot
    rw [hw4] at H4 hcm
    rw [show w3.alloc (.cells #[.int .i64 o.en.now, .int .u64 o.en.seq, .int .i64 0, .int .u64 0] 35) = w4 from hw4]
    clear H3 hw4 HX z0 z1 z2 z3 z4 z10 z11
    go_upto_region 8 with (first
      | (refine wpList_load_mid rfl 33 _ rfl w.heap.size 0 rfl (cmC o.cv o.a o.k).toList _ hcm Tryz.underlying33 rfl (by rw [cmd_size o.cv o.a o.k, Array.length_toList]) ?_)
      | (refine wpList_load_row rfl 35 _ rfl w3.heap.size rfl _ (enC ⟨o.en.now, o.en.seq, 0, 0⟩) _ _ H4.right.q.1 Tryz.underlying35 rfl (env_size _) ?_)
      | (go_at_call 10; refine (do_next (c := o.cv) (va := o.a) (vc := o.k) (en := ⟨o.en.now, o.en.seq, 0, 0⟩) H4 hLd hn3 (M := (2199023255552)) (by decide) hbd hen HOK.out.cv (Rd.old HOK.out.bs) Q1.out).mono ?_; rintro e v5 ⟨a5, c5, own5, rfl, hb5, hn5, G5⟩; have H5 := (G5.drop2.box (.cells (rsC r1 a5 c5) 40)).rot; clear G5 H4 hcm)
      | (refine wpList_store_row rfl 40 _ _ rfl v5.heap.size (rsC r1 a5 c5) rfl rfl _ (rsC zeroRv none 0) (World.alloc_heap_new v5 _) (res_size _ _ _) rfl (res_one _ _ _) ?_; rw [setRow_alloc]; generalize v5.alloc (.cells (rsC r1 a5 c5) 40) = w5 at *))
    have k5 := (hasO_of H5.right.right.right.q.1).2.1
    go_upto_region 9 with (first
      | (refine wpList_load_row rfl 35 _ rfl w3.heap.size rfl _ (enC ⟨o.en.now, o.en.seq, 0, 0⟩) _ _ H5.right.right.q.1 Tryz.underlying35 rfl (env_size _) ?_)
      | (go_at_call 10; refine (do_next (c := getC o.cv.key) (va := none) (vc := 0) (en := ⟨o.en.now, o.en.seq, 0, 0⟩) H5 hLd hn5 (M := (2199023255552 + 1)) (by decide) hb5 hen (get_ok HOK.out.cv.key) Rd.nil Q2.out).mono ?_; rintro e v6 ⟨a6, c6, own6, rfl, hb6, hn6, G6⟩; have H6 := (G6.box (.cells (rsC r2 a6 c6) 40)).rot; clear G6 H5 k5)
      | (refine wpList_store_row rfl 40 _ _ rfl v6.heap.size (rsC r2 a6 c6) rfl rfl _ (rsC zeroRv none 0) (World.alloc_heap_new v6 _) (res_size _ _ _) rfl (res_one _ _ _) ?_; rw [setRow_alloc]; generalize v6.alloc (.cells (rsC r2 a6 c6) 40) = w6 at *))
    have HB := hide H6.below
    have x1 := rs_cells H6.right.right.right.q.1
    obtain ⟨x10, -, -, x13, -⟩ := x1
    by_cases hs : r1.s = 2
    case neg =>
      clear H6
      go_wp2
      go_ret
      exact ⟨rfl, HB.out⟩
    obtain ⟨hc1, hr2⟩ := HZ.out hs
    rw [hs] at x10
    rw [hc1] at x13
    obtain ⟨y0, y1, y2, y3, y4, -, y6, -⟩ := rs_cells H6.right.q.1
    rw [show r2.s = 0 by rw [hr2]] at y0
    rw [show r2.val = o.cv.val by rw [hr2]] at y1
    rw [show r2.fl = o.cv.fl by rw [hr2]] at y2
    rw [show r2.cas = IntKind.u64.wrap (o.en.seq + 1) by rw [hr2]; rfl] at y3
    rw [show r2.ttl = (if o.cv.exp = 0 then -1 else o.cv.exp) by rw [hr2]] at y4
    rw [show r2.st = false by rw [hr2]] at y6
    rw [show nextU o.en.seq = IntKind.u64.wrap (o.en.seq + 1) from rfl] at x13
    obtain ⟨-, -, z2, z3, z4, -⟩ := hasO_of H6.right.right.right.right.right.q.1
    have en1 := (en_cells H6.right.right.right.right.q.1).2.1
    have cv1 := conv_bs (ValAt.bs H6.right.right.q.1)
    rw [show r2.val = o.cv.val by rw [hr2]] at cv1
    have cv2 := conv_bs (HOK.out.bs.on H6.below)
    dsimp only at en1
    clear HZ hs hc1 H6 Q1 Q2 hb5 hb6 hn5 hn6 hbd hen hn3 hv2 hk3 HOK hLd hr2
    generalize o.cv.val.length = N at *
    generalize strOf (ints o.cv.val) = S0 at *
    generalize o.cv.fl = fl at *
    by_cases hx : o.cv.exp = 0
    · rw [if_pos hx] at y4
      rw [hx] at z4
      clear hx p4 p5
      go_wp2
      go_ret
      exact ⟨by simp, HB.out⟩
    · rw [if_neg hx] at y4
      have hxb := beq_eq_false_iff_ne.2 hx
      clear hx
      go_wp2
      go_ret
      exact ⟨by simp, HB.out⟩
  · refine wpOp_plain rfl rfl ?_
    refine wp_buildSlice 23 37 1 _ rfl (opA o) i0 _ Tryz.underlying23 hi hz0 (by rw [hz1]; decide) (by rw [hz1]; decide) (by rw [hz1]; kernel_rfl) ?_
    refine ⟨hasO_grown hO1d (World.grownBy_alloc _ _ none), ?_⟩
    simp only [Act.put, List.setIfInBounds_toArray, List.set_cons_zero, List.set_cons_succ]
    refine one_at 1 (by kernel_rfl) rfl rfl ?_
    refine oper_append_ops _ 14 rfl _ _ rfl w1.heap.size (by rfl) (by rfl) (HR.out _ (H1d.box _).below) hol hlen hnil (by rw [World.size_alloc]; exact Nat.le_succ _) ?_
    intro v8 W8 R8 hg8
    refine ⟨hasO_grown (hasO_grown hO1d (World.grownBy_alloc _ _ none)) hg8, ?_⟩
    simp only [Act.put, List.setIfInBounds_toArray, List.set_cons_zero, List.set_cons_succ]
    refine wpAnyH_done (by kernel_rfl) ?_ _
    have G8 := grown_two (grown_two hd1 (World.grownBy_alloc _ _ none)) hg8
    have N8 := news_of (hasO_grown (hasO_new w1.drew o) hg8)
    have B8 : w1.heap.size ≤ W8.heap.size := G8.size
    clear hg8
    obtain ⟨g8, hg8⟩ : ∃ g8, w1.drew.heap.size = g8 := ⟨_, rfl⟩
    rw [hg8] at N8 ⊢
    clear hg8
    change wpList _ _ _ _ _ _
    refine wpList_append_own_at _ rfl _ _ 23 rfl w1.heap.size 37 i0 (.agg (o0.cells).toArray) 14 128 Tryz.underlying23 hi hz0 hz1 hz2 rfl (by decide) v8 os.length (opsV os) rfl R8 ⟨g8, 0, none⟩ 1 1 o.cells rfl rfl N8 (op_one o) f63 fby B8 ?_
    intro v9 w9 hown9 hg9 hx9 hat9
    obtain ⟨a9, c9, rfl, hO9, hg1⟩ := tells_row H1 G8 R8 hol2 HALL.out HOK.out hown9 hg9
    clear hown9 hg9 hat9 hx9 R8 N8 B8 G8
    have HF := hide (few_any hO9)
    have H1' := hide (H1.step hg1)
    clear hO9 hg1 H1 H1d hO1 hO1d HR HALL hok ho hz hi hz0 hz1 hz2 HSZ hol hlen hnil hB1 f63 fby hd1 hol2 hi13
    go_upto_region 4 with (first
      | (go_at_call 6; refine HF.out.mono ?_; rintro e w10 ⟨⟨fq, rfl, hfq⟩, hg10⟩; have H2 := H1'.out.step hg10; clear HF H1' hg10)
      | (go_at_call 20; refine (HD.out _ H2).mono ?_; rintro e w3 ⟨b, own, n, st, rfl, hnl, hbd, H3⟩; clear H2 HD))
    have HX := hide H3.below
    obtain ⟨z0, z1, z2, z3, z4, -, -, -, -, -, z10, z11, -, -⟩ := hasO_of H3.right.q.1
    cases fq
    case false =>
      go_wp2
      go_ret
      exact ⟨rfl, HX.out⟩
    by_cases p1 : o.cv.op < 3
    · go_wp2
      go_ret
      exact ⟨rfl, HX.out⟩
    by_cases p2 : 5 < o.cv.op
    · go_wp2
      go_ret
      exact ⟨rfl, HX.out⟩
    by_cases p3 : o.en.now < 1
    · go_wp2
      go_ret
      exact ⟨rfl, HX.out⟩
    by_cases p4 : o.cv.exp < 0
    · go_wp2
      go_ret
      exact ⟨rfl, HX.out⟩
    by_cases p5 : 2592000 < o.cv.exp
    · go_wp2
      go_ret
      exact ⟨rfl, HX.out⟩
    obtain ⟨⟨hk3, hv2, -, -⟩, -, hnow⟩ := (hfq.1 rfl).2 o (by simp)
    have hn3 : n ≤ 2199023255552 := Nat.le_trans hnl hm
    have hen : (En.mk o.en.now o.en.seq 0 0).ok := ⟨HOK.out.en.now, HOK.out.en.seq, z64, zu64⟩
    obtain ⟨r1, t1, r2, t2, q1, q2, z⟩ := tells_ex (c := o.cv) (en := ⟨o.en.now, o.en.seq, 0, 0⟩) (L.good H3.q.1) 7 (by omega) rfl (by omega) (by omega) (by show 1 ≤ o.en.now; omega) hnow
    have Q1 := hide q1
    have Q2 := hide q2
    have HZ := hide z
    have hcm := hasO_cm (hasO_of (H3.box (.cells (enC ⟨o.en.now, o.en.seq, 0, 0⟩) 35)).right.right.q.1)
    clear q1 q2 z hm hnl hfq
    go_upto_region 7 with fail
    obtain ⟨w4, hw4⟩ : ∃ w4, w3.alloc (.cells (enC ⟨o.en.now, o.en.seq, 0, 0⟩) 35) = w4 := ⟨_, rfl⟩
    have H4 := (H3.box (.cells (enC ⟨o.en.now, o.en.seq, 0, 0⟩) 35)).rot
    rw [hw4] at H4 hcm
    rw [show w3.alloc (.cells #[.int .i64 o.en.now, .int .u64 o.en.seq, .int .i64 0, .int .u64 0] 35) = w4 from hw4]
    clear H3 hw4 HX z0 z1 z2 z3 z4 z10 z11
    go_upto_region 8 with (first
      | (refine wpList_load_mid rfl 33 _ rfl w.heap.size 0 rfl (cmC o.cv o.a o.k).toList _ hcm Tryz.underlying33 rfl (by rw [cmd_size o.cv o.a o.k, Array.length_toList]) ?_)
      | (refine wpList_load_row rfl 35 _ rfl w3.heap.size rfl _ (enC ⟨o.en.now, o.en.seq, 0, 0⟩) _ _ H4.right.q.1 Tryz.underlying35 rfl (env_size _) ?_)
      | (go_at_call 10; refine (do_next (c := o.cv) (va := o.a) (vc := o.k) (en := ⟨o.en.now, o.en.seq, 0, 0⟩) H4 hLd hn3 (M := (2199023255552)) (by decide) hbd hen HOK.out.cv (Rd.old HOK.out.bs) Q1.out).mono ?_; rintro e v5 ⟨a5, c5, own5, rfl, hb5, hn5, G5⟩; have H5 := (G5.drop2.box (.cells (rsC r1 a5 c5) 40)).rot; clear G5 H4 hcm)
      | (refine wpList_store_row rfl 40 _ _ rfl v5.heap.size (rsC r1 a5 c5) rfl rfl _ (rsC zeroRv none 0) (World.alloc_heap_new v5 _) (res_size _ _ _) rfl (res_one _ _ _) ?_; rw [setRow_alloc]; generalize v5.alloc (.cells (rsC r1 a5 c5) 40) = w5 at *))
    have k5 := (hasO_of H5.right.right.right.q.1).2.1
    go_upto_region 9 with (first
      | (refine wpList_load_row rfl 35 _ rfl w3.heap.size rfl _ (enC ⟨o.en.now, o.en.seq, 0, 0⟩) _ _ H5.right.right.q.1 Tryz.underlying35 rfl (env_size _) ?_)
      | (go_at_call 10; refine (do_next (c := getC o.cv.key) (va := none) (vc := 0) (en := ⟨o.en.now, o.en.seq, 0, 0⟩) H5 hLd hn5 (M := (2199023255552 + 1)) (by decide) hb5 hen (get_ok HOK.out.cv.key) Rd.nil Q2.out).mono ?_; rintro e v6 ⟨a6, c6, own6, rfl, hb6, hn6, G6⟩; have H6 := (G6.box (.cells (rsC r2 a6 c6) 40)).rot; clear G6 H5 k5)
      | (refine wpList_store_row rfl 40 _ _ rfl v6.heap.size (rsC r2 a6 c6) rfl rfl _ (rsC zeroRv none 0) (World.alloc_heap_new v6 _) (res_size _ _ _) rfl (res_one _ _ _) ?_; rw [setRow_alloc]; generalize v6.alloc (.cells (rsC r2 a6 c6) 40) = w6 at *))
    have HB := hide H6.below
    have x1 := rs_cells H6.right.right.right.q.1
    obtain ⟨x10, -, -, x13, -⟩ := x1
    by_cases hs : r1.s = 2
    case neg =>
      clear H6
      go_wp2
      go_ret
      exact ⟨rfl, HB.out⟩
    obtain ⟨hc1, hr2⟩ := HZ.out hs
    rw [hs] at x10
    rw [hc1] at x13
    obtain ⟨y0, y1, y2, y3, y4, -, y6, -⟩ := rs_cells H6.right.q.1
    rw [show r2.s = 0 by rw [hr2]] at y0
    rw [show r2.val = o.cv.val by rw [hr2]] at y1
    rw [show r2.fl = o.cv.fl by rw [hr2]] at y2
    rw [show r2.cas = IntKind.u64.wrap (o.en.seq + 1) by rw [hr2]; rfl] at y3
    rw [show r2.ttl = (if o.cv.exp = 0 then -1 else o.cv.exp) by rw [hr2]] at y4
    rw [show r2.st = false by rw [hr2]] at y6
    rw [show nextU o.en.seq = IntKind.u64.wrap (o.en.seq + 1) from rfl] at x13
    obtain ⟨-, -, z2, z3, z4, -⟩ := hasO_of H6.right.right.right.right.right.q.1
    have en1 := (en_cells H6.right.right.right.right.q.1).2.1
    have cv1 := conv_bs (ValAt.bs H6.right.right.q.1)
    rw [show r2.val = o.cv.val by rw [hr2]] at cv1
    have cv2 := conv_bs (HOK.out.bs.on H6.below)
    dsimp only at en1
    clear HZ hs hc1 H6 Q1 Q2 hb5 hb6 hn5 hn6 hbd hen hn3 hv2 hk3 HOK hLd hr2
    generalize o.cv.val.length = N at *
    generalize strOf (ints o.cv.val) = S0 at *
    generalize o.cv.fl = fl at *
    by_cases hx : o.cv.exp = 0
    · rw [if_pos hx] at y4
      rw [hx] at z4
      clear hx p4 p5
      go_wp2
      go_ret
      exact ⟨by simp, HB.out⟩
    · rw [if_neg hx] at y4
      have hxb := beq_eq_false_iff_ne.2 hx
      clear hx
      go_wp2
      go_ret
      exact ⟨by simp, HB.out⟩
end Go.Proofs.YtkfeafmpaodagaaGreatDoor
