/- ExecWins returns true for every input, and writes nothing that was there. Conditions: the contracts of package shard; the variables of package num. -/
import Derived.Test.YthfkcbnabnmnjaaGreatDoorG53Joined
import Derived.Test.YthfkcbnabnmnjaaGreatDoorExecW
namespace Go.Proofs.YthfkcbnabnmnjaaGreatDoor
set_option linter.unusedVariables false
open Go.RowKit Go.Shelf Go.Sort
variable {Sh : World → Nat → (Nat → Prop) → Nat → Nat → Hs → Prop}

set_option maxRecDepth 100000 in
set_option maxHeartbeats 8000000 in
theorem execWins_walk (L : ShardLib Sh) (w : World) (a : Option Addr) (len cap : Nat) (os : List Op12) (ho : OpsAt w a len cap os) (key : ByteArray) (hkey : key.size ≤ 140737488351232) (m : Int) (wm : (Lit.int .i64 m).wf = true) (now : Int) (wnow : (Lit.int .i64 now).wf = true) (hLd : Laid w) :
    Calls Tryz.prog 6 #[.slice a len cap, .string key, .int .i64 m, .int .i64 now] w fun e w' => e = .returned (.bool true) ∧ Below w.heap.size w w' := by
  have HA := hide (fun W (HW : Law w W Part.emp) => awake_any L HW hLd)
  have HF := hide (fun W (hb : Below w.heap.size w W) => few_any (ho.on hb))
  have HD := hide (fun W (HW : Law w W Part.emp) => done_any L HW hLd ho)
  have hm := ho.2
  have HS := hide (Law.start w)
  go_enter Tryz.func6, Tryz.ntmps6
  go_upto_region 4 with (first
    | (go_at_call 9; refine (HA.out _ HS.out).mono ?_; rintro e w1 ⟨rfl, H1⟩; clear HA HS)
    | (go_at_call 10; refine (HF.out _ H1.below).mono ?_; rintro e w2 ⟨⟨fq, rfl, hfq⟩, hg2⟩; have H2 := H1.step hg2; clear H1 hg2 HF)
    | (go_at_call 24; refine (HD.out _ H2).mono ?_; rintro e w3 ⟨b, own, n, st, rfl, hnl, hbd, H3⟩; clear H2 HD))
  have HX := hide H3.below
  cases fq
  case false =>
    go_wp2
    go_ret
    exact ⟨rfl, HX.out⟩
  clear hfq
  by_cases o0 : 250 < key.size
  · skip
    have hki : (250 : Int) < (key.size : Int) := by omega
    go_wp2
    go_ret
    exact ⟨rfl, HX.out⟩
  have hki : (key.size : Int) ≤ 250 := by omega
  by_cases p0 : m < 1
  · skip
    go_wp2
    go_ret
    exact ⟨rfl, HX.out⟩
  by_cases p1 : 20 < m
  · skip
    go_wp2
    go_ret
    exact ⟨rfl, HX.out⟩
  by_cases p2 : now < 1
  · skip
    go_wp2
    go_ret
    exact ⟨rfl, HX.out⟩
  by_cases p3 : 1099511627776 < now
  · skip
    go_wp2
    go_ret
    exact ⟨rfl, HX.out⟩
  have hk2 : key.size ≤ 250 := by omega
  have hkk : key.size ≤ 140737488351232 := key_ok (by omega)
  have hn3 : n ≤ 2199023255552 := Nat.le_trans hnl hm
  have y0 : 1 ≤ m := by omega
  have y1 : m ≤ 20 := by omega
  have y2 : 1 ≤ now := by omega
  have y3 : now ≤ 1099511627776 := by omega
  have hen : (En.mk now 0 0 0).ok := env_ok ⟨by omega, by omega⟩
  obtain ⟨r1, t1, r2, t2, q1, q2, z1, z⟩ := wins_first (L.good H3.q.1) 7 key hkk hbd hen rfl
  have Q1 := hide q1
  have Q2 := hide q2
  have HZ := hide z
  have HZ1 := hide z1
  clear q1 q2 z z1 hm hnl o0 p0 p1 p2 p3 wnow wm
  go_upto_region 7 with fail
  obtain ⟨w4, hw4⟩ : ∃ w4, w3.alloc (.cells (enC ⟨now, 0, 0, 0⟩) 35) = w4 := ⟨_, rfl⟩
  have H4 := (H3.box (.cells (enC ⟨now, 0, 0, 0⟩) 35)).rot
  rw [hw4] at H4
  rw [show w3.alloc (.cells #[.int .i64 now, .int .u64 0, .int .i64 0, .int .u64 0] 35) = w4 from hw4]
  clear H3 hw4 HX
  have hcv5 := Lib.run_convert_bytes_const (P := Tryz.prog) w4 30 5 #[.int .u8 118] 1 1 Tryz.underlying30 Tryz.underlying5
  have K5 := (H4.box (oneO 118)).rot
  clear H4
  go_upto_region 8 with (first
    | (refine wpList_load_row rfl 35 _ rfl w3.heap.size rfl _ (enC ⟨now, 0, 0, 0⟩) _ _ K5.right.right.q.1 Tryz.underlying35 rfl (env_size _) ?_)
    | (go_at_call 14; refine (do_next (c := setC key [118] 0 0 0)   (en := ⟨now, 0, 0, 0⟩) K5 hLd hn3 (M := (2199023255552)) (by decide) hbd hen (set_okC hkk (by decide) z64 zu64) (one_rd w _ _).left Q1.out).mono ?_; rintro e v5 ⟨a5, c5, own5, rfl, hb5, hn5, G5⟩; have H5 := (G5.drop2.box (.cells (rsC r1 a5 c5) 40)).rot; clear G5 K5 hcv5)
    | (refine wpList_store_row rfl 40 _ _ rfl v5.heap.size (rsC r1 a5 c5) rfl rfl _ (rsC zeroRv none 0) (World.alloc_heap_new v5 _) (res_size _ _ _) rfl (res_one _ _ _) ?_; rw [setRow_alloc]; generalize v5.alloc (.cells (rsC r1 a5 c5) 40) = w5 at *))
  go_upto_region 9 with (first
    | (refine wpList_load_row rfl 35 _ rfl w3.heap.size rfl _ (enC ⟨now, 0, 0, 0⟩) _ _ H5.right.right.right.q.1 Tryz.underlying35 rfl (env_size _) ?_)
    | (go_at_call 14; refine (do_next (c := staleC key) (va := none) (vc := 0) (en := ⟨now, 0, 0, 0⟩) H5 hLd hn5 (M := (2199023255552 + 1)) (by decide) hb5 hen (stale_ok hkk) Rd.nil Q2.out).mono ?_; rintro e v6 ⟨a6, c6, own6, rfl, hb6, hn6, G6⟩; have H6 := (G6.drop2.box (.cells (rsC r2 a6 c6) 40)).rot; clear G6 H5)
    | (refine wpList_store_row rfl 40 _ _ rfl v6.heap.size (rsC r2 a6 c6) rfl rfl _ (rsC zeroRv none 0) (World.alloc_heap_new v6 _) (res_size _ _ _) rfl (res_one _ _ _) ?_; rw [setRow_alloc]; generalize v6.alloc (.cells (rsC r2 a6 c6) 40) = w6 at *))
  have x2 := (rs_cells H6.right.q.1).1
  have x1 := (rs_cells H6.right.right.q.1).1
  by_cases hs : r1.s = 2
  case neg =>
    have HB := hide H6.below
    clear H6
    rcases HZ1.out with e | e
    all_goals
      rw [e] at x2
      clear e
      go_wp2
      go_ret
      exact ⟨rfl, HB.out⟩
  obtain ⟨hs5, i0, hi0, hx0, hst0, hwn0⟩ := HZ.out hs
  rw [hs] at x1
  have HS5 := hide hs5
  have HI0 := hide hi0
  clear hs HZ HZ1 hs5 hi0
  obtain ⟨mm, rfl⟩ := Int.eq_ofNat_of_zero_le (show 0 ≤ m by omega)
  have ym : mm ≤ 20 := by omega
  have ym1 : 1 ≤ mm := by omega
  go_upto_region 13 with fail
  clear x1 x2
  go_loopw [15, 16, 17] (fun wo i x wr => ∃ (j : Nat) (own' : Nat → Prop) (st' : Hs) (i' : Iv), j ≤ mm ∧ i = .int .i64 j ∧ wo = .int .i64 (if j = 0 then 0 else 1) ∧ st'.slab.bud = 4000 ∧ HasI st' key i' ∧ i'.exp = 0 ∧ i'.st = true ∧ i'.won = decide (0 < j) ∧
    Law w wr ((shQ L b own' 7 (n + 1 + 1 + j) st').and ((boxP v6.heap.size (.cells (rsC r2 a6 c6) 40)).and ((boxP v5.heap.size (.cells (rsC r1 a5 c5) 40)).and ((boxP w4.heap.size (oneO 118)).and ((boxP w3.heap.size (.cells (enC ⟨now, 0, 0, 0⟩) 35)).and Part.emp)))))) (fun _ i _ _ => mm - (intOf i).toNat)
  case atStart => exact ⟨0, own6, t2, i0, Nat.zero_le _, rfl, rfl, hb6, HI0.out, hx0, hst0, hwn0, H6⟩
  case round =>
    obtain ⟨j, own', st', i', hj, rfl, rfl, hbj, hij, hxj, hsj, hwj, HL⟩ := hrel
    by_cases hlt : j < mm
    · have hlti : (j : Int) < (mm : Int) := by omega
      obtain ⟨r, t, q, f0, f1, f2, f3, i2, g1, g2, g3, g4⟩ := wins_round (L.good HL.q.1) 7 (en := ⟨now, 0, 0, 0⟩) rfl hij hxj hsj hwj
      have Q := hide q
      have G1 := hide g1
      have hnj : n + 1 + 1 + j ≤ 2199023255552 + 1 + 1 + 20 := by omega
      clear q g1 hij hxj hsj hwj H6 HI0
      go_upto_region 16 with (first
        | (refine wpList_load_row rfl 35 _ rfl w3.heap.size rfl _ (enC ⟨now, 0, 0, 0⟩) _ _ HL.right.right.right.right.q.1 Tryz.underlying35 rfl (env_size _) ?_)
        | (go_at_call 14; refine (do_next (c := metaC key) (va := none) (vc := 0) (en := ⟨now, 0, 0, 0⟩) HL hLd hnj (by decide) hbj hen (meta_ok hkk) Rd.nil Q.out).mono ?_; rintro e v7 ⟨a7, c7, own7, rfl, hb7, hn7, G7⟩; have H7 := (G7.drop2.box (.cells (rsC r a7 c7) 40)).rot; clear G7 HL)
        | (refine wpList_store_row rfl 40 _ _ rfl v7.heap.size (rsC r a7 c7) rfl rfl _ (rsC zeroRv none 0) (World.alloc_heap_new v7 _) (res_size _ _ _) rfl (res_one _ _ _) ?_; rw [setRow_alloc]; generalize v7.alloc (.cells (rsC r a7 c7) 40) = w7 at *))
      obtain ⟨c0, _, _, _, _, _, c6', c7', c8'⟩ := rs_cells H7.right.q.1
      rw [f0] at c0
      rw [f1] at c6'
      rw [f2] at c7'
      rw [f3] at c8'
      have HL2 := hide H7.drop2
      clear f0 f1 f2 f3 H7 hnj hn7
      by_cases hj0 : j = 0
      · subst hj0
        simp only [Nat.lt_irrefl, decide_false, Bool.not_false] at c7' c8'
        go_wp2
        go_roundw
        case rel => exact ⟨1, own7, t, i2, by omega, by go_num, by simp, hb7, G1.out, g2, g3, by rw [g4]; rfl, HL2.out⟩
        case measure => simp [intOf]; omega
      · have hjp : 0 < j := by omega
        have hji : (0 : Int) < (j : Int) := by omega
        simp only [hjp, decide_true, Bool.not_true] at c7' c8'
        rw [if_neg hj0]
        go_wp2
        go_roundw
        case rel => exact ⟨j + 1, own7, t, i2, by omega, by go_num, by simp, hb7, G1.out, g2, g3, by rw [g4]; simp, HL2.out⟩
        case measure => simp [intOf]; omega
    · obtain rfl : j = mm := by omega
      have hj0 : ¬ (j = 0) := by omega
      rw [if_neg hj0]
      clear H6 HI0 hwj hsj
      obtain ⟨r3, t3, r4, t4, q3, q4, f0, f1, f2, f3⟩ := wins_last (L.good HL.q.1) 7 (en := ⟨now, 0, 0, 0⟩) hk2 hbj hen rfl hij hxj
      have Q3 := hide q3
      have Q4 := hide q4
      have hnj : n + 1 + 1 + j ≤ 2199023255552 + 1 + 1 + 20 := by omega
      clear q3 q4 hij hxj
      go_upto_region 20 with fail
      have hcv8 := Lib.run_convert_bytes_const (P := Tryz.prog) wr 30 5 #[.int .u8 119] 1 1 Tryz.underlying30 Tryz.underlying5
      have K8 := (HL.box (oneO 119)).rot
      clear HL
      go_upto_region 21 with (first
        | (refine wpList_load_row rfl 35 _ rfl w3.heap.size rfl _ (enC ⟨now, 0, 0, 0⟩) _ _ K8.right.right.right.right.right.q.1 Tryz.underlying35 rfl (env_size _) ?_)
        | (go_at_call 14; refine (do_next (c := setC key [119] 0 0 0)   (en := ⟨now, 0, 0, 0⟩) K8 hLd hnj (M := (2199023255552 + 1 + 1 + 20)) (by decide) hbj hen (set_okC hkk (by decide) z64 zu64) (one_rd w _ _).left Q3.out).mono ?_; rintro e v8 ⟨a8, c8, own8, rfl, hb8, hn8, G8⟩; have H8 := (G8.drop2.box (.cells (rsC r3 a8 c8) 40)).rot; clear G8 K8 hcv8)
        | (refine wpList_store_row rfl 40 _ _ rfl v8.heap.size (rsC r3 a8 c8) rfl rfl _ (rsC zeroRv none 0) (World.alloc_heap_new v8 _) (res_size _ _ _) rfl (res_one _ _ _) ?_; rw [setRow_alloc]; generalize v8.alloc (.cells (rsC r3 a8 c8) 40) = w8 at *))
      go_upto_region 22 with (first
        | (refine wpList_load_row rfl 35 _ rfl w3.heap.size rfl _ (enC ⟨now, 0, 0, 0⟩) _ _ H8.right.right.right.right.right.right.q.1 Tryz.underlying35 rfl (env_size _) ?_)
        | (go_at_call 14; refine (do_next (c := metaC key) (va := none) (vc := 0) (en := ⟨now, 0, 0, 0⟩) H8 hLd hn8 (M := (2199023255552 + 1 + 1 + 20 + 1)) (by decide) hb8 hen (meta_ok hkk) Rd.nil Q4.out).mono ?_; rintro e v9 ⟨a9, c9, own9, rfl, hb9, hn9, G9⟩; have H9 := (G9.drop2.box (.cells (rsC r4 a9 c9) 40)).rot; clear G9 H8)
        | (refine wpList_store_row rfl 40 _ _ rfl v9.heap.size (rsC r4 a9 c9) rfl rfl _ (rsC zeroRv none 0) (World.alloc_heap_new v9 _) (res_size _ _ _) rfl (res_one _ _ _) ?_; rw [setRow_alloc]; generalize v9.alloc (.cells (rsC r4 a9 c9) 40) = w9 at *))
      obtain ⟨_, _, _, _, _, _, d6, d7, d8⟩ := rs_cells H9.right.q.1
      have d3 := (rs_cells H9.right.right.q.1).1
      have d2 := (rs_cells H9.right.right.right.right.q.1).1
      rw [f1] at d6
      rw [f2] at d7
      rw [f3] at d8
      rw [f0] at d3
      rw [HS5.out] at d2
      have HB := hide H9.below
      clear H9 f0 f1 f2 f3
      go_wp2
      go_ret
      exact ⟨rfl, HB.out⟩
end Go.Proofs.YthfkcbnabnmnjaaGreatDoor
