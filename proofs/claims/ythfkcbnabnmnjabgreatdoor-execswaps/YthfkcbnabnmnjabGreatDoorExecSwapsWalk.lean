/- ExecSwaps returns true for every input, and writes nothing that was there. Conditions: the contracts of package shard; the variables of package num. -/
import Derived.Test.YthfkcbnabnmnjabGreatDoorG58Joined
import Derived.Test.YthfkcbnabnmnjabGreatDoorExecU
namespace Go.Proofs.YthfkcbnabnmnjabGreatDoor
set_option linter.unusedVariables false
open Go.RowKit Go.Shelf Go.Sort
variable {Sh : World → Nat → (Nat → Prop) → Nat → Nat → Hs → Prop}

set_option maxRecDepth 100000 in
set_option maxHeartbeats 8000000 in
theorem execSwaps_walk (L : ShardLib Sh) (w : World) (a : Option Addr) (len cap : Nat) (os : List Op12) (ho : OpsAt w a len cap os) (key : ByteArray) (hkey : key.size ≤ 140737488351232) (q : Int) (wq : (Lit.int .u64 q).wf = true) (hLd : Laid w) :
    Calls Tryz.prog 4 #[.slice a len cap, .string key, .int .u64 q] w fun e w' => e = .returned (.bool true) ∧ Below w.heap.size w w' := by
  have HA := hide (fun W (HW : Law w W Part.emp) => awake_any L HW hLd)
  have HF := hide (fun W (hb : Below w.heap.size w W) => few_any (ho.on hb))
  have HD := hide (fun W (HW : Law w W Part.emp) => done_any L HW hLd ho)
  have hm := ho.2
  have HS := hide (Law.start w)
  go_enter Tryz.func4, Tryz.ntmps4
  go_upto_region 4 with (first
    | (go_at_call 6; refine (HA.out _ HS.out).mono ?_; rintro e w1 ⟨rfl, H1⟩; clear HA HS)
    | (go_at_call 7; refine (HF.out _ H1.below).mono ?_; rintro e w2 ⟨⟨fq, rfl, hfq⟩, hg2⟩; have H2 := H1.step hg2; clear H1 hg2 HF)
    | (go_at_call 8; refine (HD.out _ H2).mono ?_; rintro e w3 ⟨b, own, n, st, rfl, hnl, hbd, H3⟩; clear H2 HD))
  have HX := hide H3.below
  cases fq
  case false =>
    go_wp2
    go_ret
    exact ⟨rfl, HX.out⟩
  clear hfq
  by_cases hk : 250 < key.size
  · have hki : (250 : Int) < (key.size : Int) := by omega
    go_wp2
    go_ret
    exact ⟨rfl, HX.out⟩
  have hki : (key.size : Int) ≤ 250 := by omega
  by_cases x1 : q < 1000
  · skip
    go_wp2
    go_ret
    exact ⟨rfl, HX.out⟩
  by_cases x2 : 1152921504606846976 < q
  · skip
    go_wp2
    go_ret
    exact ⟨rfl, HX.out⟩
  have hk2 : key.size ≤ 250 := by omega
  have hkk : key.size ≤ 140737488351232 := key_ok (by omega)
  have hn3 : n ≤ 2199023255552 := Nat.le_trans hnl hm
  have y1 : 1000 ≤ q := by omega
  have y2 : q ≤ 1152921504606846976 := by omega
  have hen : ∀ j : Int, 0 ≤ j → j ≤ 5 → (En.mk 5 (q + j) 0 0).ok := fun j h0 h1 => ⟨i64l 5 rfl, ⟨by show 0 ≤ q + j; omega, by show q + j < 18446744073709551616; omega⟩, z64, zu64⟩
  have en0 : (En.mk 5 q 0 0).ok := ⟨i64l 5 rfl, ⟨by show 0 ≤ q; omega, by show q < 18446744073709551616; omega⟩, z64, zu64⟩
  have HE1 := hide (hen 1 (by decide) (by decide))
  have HE2 := hide (hen 2 (by decide) (by decide))
  have HE3 := hide (hen 3 (by decide) (by decide))
  have HE4 := hide (hen 4 (by decide) (by decide))
  have HE5 := hide (hen 5 (by decide) (by decide))
  have hcas : U64 (q + 1) := ⟨by omega, by omega⟩
  clear x1 x2 HX wq hen
  obtain ⟨r1, t1, r2, t2, q1, q2, z⟩ := swaps_ex (L.good H3.q.1) 7 key hk2 hbd q y1 y2
  have Q1 := hide q1
  have Q2 := hide q2
  have HZ := hide z
  clear q1 q2 z hk hm hnl hk2
  have hcv5 := Lib.run_convert_bytes_const (P := Tryz.prog) w3 30 5 #[.int .u8 49] 1 1 Tryz.underlying30 Tryz.underlying5
  have K5 := (H3.box (oneO 49)).rot
  clear H3
  go_upto_region 7 with (first
    | (go_at_call 9; refine (do_next (c := setC key [49] 0 0 0)   (en := ⟨5, q, 0, 0⟩) K5 hLd hn3 (M := (2199023255552)) (by decide) hbd en0 (set_okC hkk (by decide) z64 zu64) (one_rd w _ _).left Q1.out).mono ?_; rintro e v5 ⟨a5, c5, own5, rfl, hb5, hn5, G5⟩; have H5 := (G5.drop2.box (.cells (rsC r1 a5 c5) 33)).rot; clear G5 K5 hcv5)
    | (refine wpList_store_row rfl 33 _ _ rfl v5.heap.size (rsC r1 a5 c5) rfl rfl _ (rsC zeroRv none 0) (World.alloc_heap_new v5 _) (res_size _ _ _) rfl (res_one _ _ _) ?_; rw [setRow_alloc]; generalize v5.alloc (.cells (rsC r1 a5 c5) 33) = w5 at *))
  go_upto_region 8 with (first
    | (go_at_call 9; refine (do_next (c := getC key) (va := none) (vc := 0) (en := ⟨5, q + 1, 0, 0⟩) H5 hLd hn5 (M := (2199023255552 + 1)) (by decide) hb5 HE1.out (get_ok hkk) Rd.nil Q2.out).mono ?_; rintro e v6 ⟨a6, c6, own6, rfl, hb6, hn6, G6⟩; have H6 := (G6.drop2.box (.cells (rsC r2 a6 c6) 33)).rot; clear G6 H5)
    | (refine wpList_store_row rfl 33 _ _ rfl v6.heap.size (rsC r2 a6 c6) rfl rfl _ (rsC zeroRv none 0) (World.alloc_heap_new v6 _) (res_size _ _ _) rfl (res_one _ _ _) ?_; rw [setRow_alloc]; generalize v6.alloc (.cells (rsC r2 a6 c6) 33) = w6 at *))
  have x1 := (rs_cells H6.right.right.q.1).1
  by_cases hs : r1.s = 2
  case neg =>
    have HB := hide H6.below
    clear H6
    go_wp2
    go_ret
    exact ⟨rfl, HB.out⟩
  obtain ⟨hcs, r3, t3, t4, t5, r6, t6, q3, s3, q4, q5, q6, v6⟩ := HZ.out hs
  rw [hs] at x1
  have Q3 := hide q3
  have Q4 := hide q4
  have Q5 := hide q5
  have Q6 := hide q6
  have HC := hide hcs
  have HS3 := hide s3
  have HV6 := hide v6
  clear q3 q4 q5 q6 s3 v6 HZ hs hcs
  go_upto_region 10 with fail
  have g2 := (rs_cells H6.right.q.1).2.2.2.1
  rw [HC.out] at g2
  clear x1
  have hcv7 := Lib.run_convert_bytes_const (P := Tryz.prog) w6 30 5 #[.int .u8 50] 1 1 Tryz.underlying30 Tryz.underlying5
  have K7 := (H6.box (oneO 50)).rot
  have g3 : (w6.alloc (.cells #[.int .u8 50] 5 (1, 2))).cell? ⟨v6.heap.size, 3, none⟩ = some (.int .u64 r2.cas) := (rs_cells K7.right.right.q.1).2.2.2.1
  rw [HC.out] at g3
  clear H6
  go_upto_region 11 with (first
    | (go_at_call 9; refine (do_next (c := setC key [50] 0 0 (q + 1))   (en := ⟨5, q + 2, 0, 0⟩) K7 hLd hn6 (M := (2199023255552 + 1 + 1)) (by decide) hb6 HE2.out (set_okC hkk (by decide) z64 hcas) (one_rd w _ _).left Q3.out).mono ?_; rintro e v7 ⟨a7, c7, own7, rfl, hb7, hn7, G7⟩; have H7 := (G7.drop2.box (.cells (rsC r3 a7 c7) 33)).rot; clear G7 K7 hcv7 g2 g3)
    | (refine wpList_store_row rfl 33 _ _ rfl v7.heap.size (rsC r3 a7 c7) rfl rfl _ (rsC zeroRv none 0) (World.alloc_heap_new v7 _) (res_size _ _ _) rfl (res_one _ _ _) ?_; rw [setRow_alloc]; generalize v7.alloc (.cells (rsC r3 a7 c7) 33) = w7 at *))
  have hcv8 := Lib.run_convert_bytes_const (P := Tryz.prog) w7 30 5 #[.int .u8 51] 1 1 Tryz.underlying30 Tryz.underlying5
  have K8 := (H7.box (oneO 51)).rot
  have g4 : (w7.alloc (.cells #[.int .u8 51] 5 (1, 2))).cell? ⟨v6.heap.size, 3, none⟩ = some (.int .u64 r2.cas) := (rs_cells K8.right.right.right.right.q.1).2.2.2.1
  rw [HC.out] at g4
  clear H7
  go_upto_region 12 with (first
    | (go_at_call 9; refine (do_next (c := setC key [51] 0 0 (q + 1))   (en := ⟨5, q + 3, 0, 0⟩) K8 hLd hn7 (M := (2199023255552 + 1 + 1 + 1)) (by decide) hb7 HE3.out (set_okC hkk (by decide) z64 hcas) (one_rd w _ _).left Q4.out).mono ?_; rintro e v8 ⟨a8, c8, own8, rfl, hb8, hn8, G8⟩; have H8 := (G8.drop2.box (.cells (rsC (onlyR 4) a8 c8) 33)).rot; clear G8 K8 hcv8 g4)
    | (refine wpList_store_row rfl 33 _ _ rfl v8.heap.size (rsC (onlyR 4) a8 c8) rfl rfl _ (rsC zeroRv none 0) (World.alloc_heap_new v8 _) (res_size _ _ _) rfl (res_one _ _ _) ?_; rw [setRow_alloc]; generalize v8.alloc (.cells (rsC (onlyR 4) a8 c8) 33) = w8 at *))
  have g5 := (rs_cells H8.right.right.right.right.right.q.1).2.2.2.1
  rw [HC.out] at g5
  go_upto_region 13 with (first
    | (go_at_call 9; refine (do_next (c := delC key (q + 1)) (va := none) (vc := 0) (en := ⟨5, q + 4, 0, 0⟩) H8 hLd hn8 (M := (2199023255552 + 1 + 1 + 1 + 1)) (by decide) hb8 HE4.out (del_ok hkk hcas) Rd.nil Q5.out).mono ?_; rintro e v9 ⟨a9, c9, own9, rfl, hb9, hn9, G9⟩; have H9 := (G9.drop2.box (.cells (rsC (onlyR 4) a9 c9) 33)).rot; clear G9 H8 g5)
    | (refine wpList_store_row rfl 33 _ _ rfl v9.heap.size (rsC (onlyR 4) a9 c9) rfl rfl _ (rsC zeroRv none 0) (World.alloc_heap_new v9 _) (res_size _ _ _) rfl (res_one _ _ _) ?_; rw [setRow_alloc]; generalize v9.alloc (.cells (rsC (onlyR 4) a9 c9) 33) = w9 at *))
  go_upto_region 14 with (first
    | (go_at_call 9; refine (do_next (c := getC key) (va := none) (vc := 0) (en := ⟨5, q + 5, 0, 0⟩) H9 hLd hn9 (M := (2199023255552 + 1 + 1 + 1 + 1 + 1)) (by decide) hb9 HE5.out (get_ok hkk) Rd.nil Q6.out).mono ?_; rintro e v10 ⟨a10, c10, own10, rfl, hb10, hn10, G10⟩; have H10 := (G10.box (.cells (rsC r6 a10 c10) 33)).rot; clear G10 H9)
    | (refine wpList_store_row rfl 33 _ _ rfl v10.heap.size (rsC r6 a10 c10) rfl rfl _ (rsC zeroRv none 0) (World.alloc_heap_new v10 _) (res_size _ _ _) rfl (res_one _ _ _) ?_; rw [setRow_alloc]; generalize v10.alloc (.cells (rsC r6 a10 c10) 33) = w10 at *))
  have u6 := (rs_cells H10.right.q.1).2.1
  have u5 := (rs_cells H10.right.right.right.q.1).1
  have u4 := (rs_cells H10.right.right.right.right.q.1).1
  have u3 := (rs_cells H10.right.right.right.right.right.right.q.1).1
  have u2 := (rs_cells H10.right.right.right.right.right.right.right.right.q.1).2.2.2.1
  have hbs := ValAt.bs H10.right.right.q.1
  rw [HV6.out] at u6 hbs
  rw [HS3.out] at u3
  rw [HC.out] at u2
  have hcv := conv_bs hbs
  rw [show strOf (ints [50]) = ⟨#[50]⟩ from rfl] at hcv
  rw [show ([50] : List UInt8).length = 1 from rfl] at hcv u6
  have HB := hide H10.below
  clear H10 hbs
  go_wp2
  go_ret
  exact ⟨rfl, HB.out⟩
end Go.Proofs.YthfkcbnabnmnjabGreatDoor
