/- ExecAdds returns true for every input, and writes nothing that was there. Conditions: the contracts of package shard; the variables of package num. -/
import Derived.Test.YthfkcbnabnmnjaaGreatDoorG53Joined
import Derived.Test.YthfkcbnabnmnjaaGreatDoorExecW
namespace Go.Proofs.YthfkcbnabnmnjaaGreatDoor
set_option linter.unusedVariables false
open Go.RowKit Go.Shelf Go.Sort
variable {Sh : World → Nat → (Nat → Prop) → Nat → Nat → Hs → Prop}

set_option maxRecDepth 100000 in
set_option maxHeartbeats 8000000 in
theorem execAdds_walk (L : ShardLib Sh) (w : World) (a : Option Addr) (len cap : Nat) (os : List Op12) (ho : OpsAt w a len cap os) (key : ByteArray) (hkey : key.size ≤ 140737488351232) (x : Int) (wx : (Lit.int .u64 x).wf = true) (del : Int) (wdel : (Lit.int .u64 del).wf = true) (now : Int) (wnow : (Lit.int .i64 now).wf = true) (hLd : Laid w) :
    Calls Tryz.prog 7 #[.slice a len cap, .string key, .int .u64 x, .int .u64 del, .int .i64 now] w fun e w' => e = .returned (.bool true) ∧ Below w.heap.size w w' := by
  have hx := u64_wf wx
  have hdl := u64_wf wdel
  clear wx wdel
  have HA := hide (fun W (HW : Law w W Part.emp) => awake_any L HW hLd)
  have HF := hide (fun W (hb : Below w.heap.size w W) => few_any (ho.on hb))
  have HD := hide (fun W (HW : Law w W Part.emp) => done_any L HW hLd ho)
  have hm := ho.2
  have HS := hide (Law.start w)
  go_enter Tryz.func7, Tryz.ntmps7
  go_upto_region 4 with (first
    | (go_at_call 9; refine (HA.out _ HS.out).mono ?_; rintro e w1 ⟨rfl, H1⟩; clear HA HS)
    | (go_at_call 10; refine (HF.out _ H1.below).mono ?_; rintro e w2 ⟨⟨fq, rfl, hfq⟩, hg2⟩; have H2 := H1.step hg2; clear H1 hg2 HF)
    | (go_at_call 24; refine (HD.out _ H2).mono ?_; rintro e w3 ⟨b, own, n, st, rfl, hnl, hbd, H3⟩; clear H2 HD))
  have HX := hide H3.below
  cases fq
  case false =>
    go_wp2
    go_ret
    exact ⟨rfl, HX.out⟩
  clear hfq
  by_cases o0 : 250 < key.size
  · skip
    have hki : (250 : Int) < (key.size : Int) := by omega
    go_wp2
    go_ret
    exact ⟨rfl, HX.out⟩
  have hki : (key.size : Int) ≤ 250 := by omega
  by_cases p2 : now < 1
  · skip
    go_wp2
    go_ret
    exact ⟨rfl, HX.out⟩
  by_cases p3 : 1099511627776 < now
  · skip
    go_wp2
    go_ret
    exact ⟨rfl, HX.out⟩
  have hk2 : key.size ≤ 250 := by omega
  have hkk : key.size ≤ 140737488351232 := key_ok (by omega)
  have hn3 : n ≤ 2199023255552 := Nat.le_trans hnl hm
  have y2 : 1 ≤ now := by omega
  have y3 : now ≤ 1099511627776 := by omega
  have hen : (En.mk now 0 0 0).ok := env_ok ⟨by omega, by omega⟩
  obtain ⟨r1, t1, r2, t2, r3, t3, r4, t4, q1, q2, q3, q4, z1, z⟩ := adds_ex (L.good H3.q.1) 7 key hk2 hbd hen rfl x del hx hdl
  have Q1 := hide q1
  have Q2 := hide q2
  have Q3 := hide q3
  have Q4 := hide q4
  have HZ := hide z
  have HZ1 := hide z1
  clear q1 q2 q3 q4 z z1 hm hnl o0 p2 p3 wnow hk2
  go_upto_region 7 with fail
  obtain ⟨w4, hw4⟩ : ∃ w4, w3.alloc (.cells (enC ⟨now, 0, 0, 0⟩) 35) = w4 := ⟨_, rfl⟩
  have H4 := (H3.box (.cells (enC ⟨now, 0, 0, 0⟩) 35)).rot
  rw [hw4] at H4
  rw [show w3.alloc (.cells #[.int .i64 now, .int .u64 0, .int .i64 0, .int .u64 0] 35) = w4 from hw4]
  clear H3 hw4 HX
  go_upto_region 8 with (first
    | (refine wpList_load_row rfl 35 _ rfl w3.heap.size rfl _ (enC ⟨now, 0, 0, 0⟩) _ _ H4.right.q.1 Tryz.underlying35 rfl (env_size _) ?_)
    | (go_at_call 14; refine (do_next (c := delC key 0) (va := none) (vc := 0) (en := ⟨now, 0, 0, 0⟩) H4 hLd hn3 (M := (2199023255552)) (by decide) hbd hen (del_ok hkk zu64) Rd.nil Q1.out).mono ?_; rintro e v5 ⟨a5, c5, own5, rfl, hb5, hn5, G5⟩; have H5 := (G5.drop2.box (.cells (rsC r1 a5 c5) 40)).rot; clear G5 H4)
    | (refine wpList_store_row rfl 40 _ _ rfl v5.heap.size (rsC r1 a5 c5) rfl rfl _ (rsC zeroRv none 0) (World.alloc_heap_new v5 _) (res_size _ _ _) rfl (res_one _ _ _) ?_; rw [setRow_alloc]; generalize v5.alloc (.cells (rsC r1 a5 c5) 40) = w5 at *))
  go_upto_region 9 with (first
    | (refine wpList_load_row rfl 35 _ rfl w3.heap.size rfl _ (enC ⟨now, 0, 0, 0⟩) _ _ H5.right.right.q.1 Tryz.underlying35 rfl (env_size _) ?_)
    | (go_at_call 14; refine (do_next (c := makeC key x) (va := none) (vc := 0) (en := ⟨now, 0, 0, 0⟩) H5 hLd hn5 (M := (2199023255552 + 1)) (by decide) hb5 hen (make_ok hkk hx) Rd.nil Q2.out).mono ?_; rintro e v6 ⟨a6, c6, own6, rfl, hb6, hn6, G6⟩; have H6 := (G6.drop2.box (.cells (rsC r2 a6 c6) 40)).rot; clear G6 H5)
    | (refine wpList_store_row rfl 40 _ _ rfl v6.heap.size (rsC r2 a6 c6) rfl rfl _ (rsC zeroRv none 0) (World.alloc_heap_new v6 _) (res_size _ _ _) rfl (res_one _ _ _) ?_; rw [setRow_alloc]; generalize v6.alloc (.cells (rsC r2 a6 c6) 40) = w6 at *))
  go_upto_region 10 with (first
    | (refine wpList_load_row rfl 35 _ rfl w3.heap.size rfl _ (enC ⟨now, 0, 0, 0⟩) _ _ H6.right.right.right.q.1 Tryz.underlying35 rfl (env_size _) ?_)
    | (go_at_call 14; refine (do_next (c := numC 10 key del) (va := none) (vc := 0) (en := ⟨now, 0, 0, 0⟩) H6 hLd hn6 (M := (2199023255552 + 1 + 1)) (by decide) hb6 hen (num_okC hkk (i64l 10 rfl) hdl) Rd.nil Q3.out).mono ?_; rintro e v7 ⟨a7, c7, own7, rfl, hb7, hn7, G7⟩; have H7 := (G7.drop2.box (.cells (rsC r3 a7 c7) 40)).rot; clear G7 H6)
    | (refine wpList_store_row rfl 40 _ _ rfl v7.heap.size (rsC r3 a7 c7) rfl rfl _ (rsC zeroRv none 0) (World.alloc_heap_new v7 _) (res_size _ _ _) rfl (res_one _ _ _) ?_; rw [setRow_alloc]; generalize v7.alloc (.cells (rsC r3 a7 c7) 40) = w7 at *))
  go_upto_region 11 with (first
    | (refine wpList_load_row rfl 35 _ rfl w3.heap.size rfl _ (enC ⟨now, 0, 0, 0⟩) _ _ H7.right.right.right.right.q.1 Tryz.underlying35 rfl (env_size _) ?_)
    | (go_at_call 14; refine (do_next (c := numC 11 key del) (va := none) (vc := 0) (en := ⟨now, 0, 0, 0⟩) H7 hLd hn7 (M := (2199023255552 + 1 + 1 + 1)) (by decide) hb7 hen (num_okC hkk (i64l 11 rfl) hdl) Rd.nil Q4.out).mono ?_; rintro e v8 ⟨a8, c8, own8, rfl, hb8, hn8, G8⟩; have H8 := (G8.drop2.box (.cells (rsC r4 a8 c8) 40)).rot; clear G8 H7)
    | (refine wpList_store_row rfl 40 _ _ rfl v8.heap.size (rsC r4 a8 c8) rfl rfl _ (rsC zeroRv none 0) (World.alloc_heap_new v8 _) (res_size _ _ _) rfl (res_one _ _ _) ?_; rw [setRow_alloc]; generalize v8.alloc (.cells (rsC r4 a8 c8) 40) = w8 at *))
  have x4 := (rs_cells H8.right.q.1).1
  have yy4 := (rs_cells H8.right.q.1).2.2.2.2.2.1
  have x3 := (rs_cells H8.right.right.q.1).1
  have yy3 := (rs_cells H8.right.right.q.1).2.2.2.2.2.1
  have x2 := (rs_cells H8.right.right.right.q.1).1
  have yy2 := (rs_cells H8.right.right.right.q.1).2.2.2.2.2.1
  have x1 := (rs_cells H8.right.right.right.right.q.1).1
  have HB := hide H8.below
  clear H8 hb5 hb6 hb7 hb8 hn5 hn6 hn7 hn8
  by_cases hs : r2.s = 7
  case neg =>
    rcases HZ1.out with e | e
    all_goals
      rw [e] at x1
      clear e
      go_wp2
      go_ret
      exact ⟨rfl, HB.out⟩
  obtain ⟨z1, z2, z3, z4, z5⟩ := HZ.out hs
  rw [hs] at x2
  rw [z1] at yy2
  rw [z2] at x3
  rw [z3] at yy3
  rw [z4] at x4
  rw [z5] at yy4
  clear z1 z2 z3 z4 z5 HZ hs
  obtain ⟨hx0, hx1⟩ := hx
  obtain ⟨hd0, hd1⟩ := hdl
  by_cases hr : x + del < 18446744073709551616
  · have e1 : (x + del) % 18446744073709551616 = x + del := Int.emod_eq_of_lt (by omega) hr
    have e2 : ¬ (x + del < x) := by omega
    rw [e1] at yy3 yy4
    rw [if_neg e2] at yy4
    clear e1
    go_wp2
    go_ret
    exact ⟨rfl, HB.out⟩
  · have e1 : (x + del) % 18446744073709551616 = x + del - 18446744073709551616 := by omega
    have e2 : x + del - 18446744073709551616 < x := by omega
    have hwr : IntKind.u64.wrap (x + del) = x + del - 18446744073709551616 := by rw [← e1]; rfl
    have y0 : 0 ≤ x + del - 18446744073709551616 := by omega
    rw [e1] at yy3 yy4
    rw [if_pos e2] at yy4
    clear e1 hr
    generalize x + del - 18446744073709551616 = y at *
    go_wp2
    go_ret
    exact ⟨rfl, HB.out⟩
end Go.Proofs.YthfkcbnabnmnjaaGreatDoor
