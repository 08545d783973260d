/- ExecJoins returns true for every input, and writes nothing that was there. Conditions: the contracts of package shard; the variables of package num. -/
import Derived.Test.YthfkcbnabnmnjaaGreatDoorG53Joined
import Derived.Test.YthfkcbnabnmnjaaGreatDoorExecW
import Derived.Test.YthfkcbnabnmnjaaGreatDoorRowBs
namespace Go.Proofs.YthfkcbnabnmnjaaGreatDoor
set_option linter.unusedVariables false
open Go.RowKit Go.Shelf Go.Sort
variable {Sh : World → Nat → (Nat → Prop) → Nat → Nat → Hs → Prop}

def enJ : En := ⟨5, 0, 0, 0⟩
set_option maxRecDepth 100000 in
set_option maxHeartbeats 8000000 in
theorem joins_in (L : ShardLib Sh) (w : World) (a : Option Addr) (len cap : Nat) (os : List Op12) (ho : OpsAt w a len cap os) (key : ByteArray) (hkey : key.size ≤ 140737488351232) (a1 a2 a3 : Option Addr) (k1 k2 k3 : Nat) (u1 u2 u3 : List UInt8) (b1 : Bs w a1 u1.length k1 (ints u1)) (b2 : Bs w a2 u2.length k2 (ints u2)) (b3 : Bs w a3 u3.length k3 (ints u3)) (m1 : u1.length ≤ maxLen) (m2 : u2.length ≤ maxLen) (m3 : u3.length ≤ maxLen) (hLd : Laid w) :
    Calls Tryz.prog 8 #[.slice a len cap, .string key, .slice a1 u1.length k1, .slice a2 u2.length k2, .slice a3 u3.length k3] w fun e w' => e = .returned (.bool true) ∧ Below w.heap.size w w' := by
  have HB1 := hide b1
  have HB2 := hide b2
  have HB3 := hide b3
  unfold maxLen at m1 m2 m3
  clear b1 b2 b3
  have HA := hide (fun W (HW : Law w W Part.emp) => awake_any L HW hLd)
  have HF := hide (fun W (hb : Below w.heap.size w W) => few_any (ho.on hb))
  have HD := hide (fun W (HW : Law w W Part.emp) => done_any L HW hLd ho)
  have hm := ho.2
  have HS := hide (Law.start w)
  go_enter Tryz.func8, Tryz.ntmps8
  go_upto_region 4 with (first
    | (go_at_call 9; refine (HA.out _ HS.out).mono ?_; rintro e w1 ⟨rfl, H1⟩; clear HA HS)
    | (go_at_call 10; refine (HF.out _ H1.below).mono ?_; rintro e w2 ⟨⟨fq, rfl, hfq⟩, hg2⟩; have H2 := H1.step hg2; clear H1 hg2 HF)
    | (go_at_call 24; refine (HD.out _ H2).mono ?_; rintro e w3 ⟨b, own, n, st, rfl, hnl, hbd, H3⟩; clear H2 HD))
  have HX := hide H3.below
  cases fq
  case false =>
    go_wp2
    go_ret
    exact ⟨rfl, HX.out⟩
  clear hfq
  by_cases o0 : 250 < key.size
  · skip
    have hki : (250 : Int) < (key.size : Int) := by omega
    go_wp2
    go_ret
    exact ⟨rfl, HX.out⟩
  have hki : (key.size : Int) ≤ 250 := by omega
  by_cases p1 : 300 < u1.length
  · have hp1 : (300 : Int) < (u1.length : Int) := by omega
    go_wp2
    go_ret
    exact ⟨rfl, HX.out⟩
  have hp1 : (u1.length : Int) ≤ 300 := by omega
  by_cases p2 : 300 < u2.length
  · have hp2 : (300 : Int) < (u2.length : Int) := by omega
    go_wp2
    go_ret
    exact ⟨rfl, HX.out⟩
  have hp2 : (u2.length : Int) ≤ 300 := by omega
  by_cases p3 : 300 < u3.length
  · have hp3 : (300 : Int) < (u3.length : Int) := by omega
    go_wp2
    go_ret
    exact ⟨rfl, HX.out⟩
  have hp3 : (u3.length : Int) ≤ 300 := by omega
  have hk2 : key.size ≤ 250 := by omega
  have hkk : key.size ≤ 140737488351232 := key_ok (by omega)
  have l1 : u1.length ≤ 300 := by omega
  have l2 : u2.length ≤ 300 := by omega
  have l3 : u3.length ≤ 300 := by omega
  have v1 : u1.length ≤ 140737488351232 := Nat.le_trans l1 (by decide)
  have v2 : u2.length ≤ 140737488351232 := Nat.le_trans l2 (by decide)
  have v3 : u3.length ≤ 140737488351232 := Nat.le_trans l3 (by decide)
  have hn3 : n ≤ 2199023255552 := Nat.le_trans hnl hm
  have hen : enJ.ok := env_ok (i64l 5 rfl)
  obtain ⟨r1, t1, r2, t2, r3, t3, r4, t4, q1, q2, q3, q4, z⟩ := joins_ex (L.good H3.q.1) 7 key hk2 hbd u1 u2 u3 l1 l2
  have Q1 := hide q1
  have Q2 := hide q2
  have Q3 := hide q3
  have Q4 := hide q4
  have HZ := hide z
  have HL1 := hide l1
  have HL2 := hide l2
  have HL3 := hide l3
  clear q1 q2 q3 q4 z hm hnl o0 p1 p2 p3 hk2 l1 l2 l3
  go_upto_region 7 with fail
  obtain ⟨w4, hw4⟩ : ∃ w4, w3.alloc (.cells (enC enJ) 35) = w4 := ⟨_, rfl⟩
  have H4 := (H3.box (.cells (enC enJ) 35)).rot
  rw [hw4] at H4
  rw [show w3.alloc (.cells #[.int .i64 5, .int .u64 0, .int .i64 0, .int .u64 0] 35) = w4 from hw4]
  clear H3 hw4 HX
  go_upto_region 8 with (first
    | (refine wpList_load_row rfl 35 _ rfl w3.heap.size rfl _ (enC enJ) _ _ H4.right.q.1 Tryz.underlying35 rfl (env_size _) ?_)
    | (go_at_call 14; refine (do_next (c := setC key u1 9 60 0)   (en := enJ) H4 hLd hn3 (M := (2199023255552)) (by decide) hbd hen (set_okC hkk v1 (i64l 60 rfl) zu64) (Rd.old HB1.out) Q1.out).mono ?_; rintro e v5 ⟨a5, c5, own5, rfl, hb5, hn5, G5⟩; have H5 := (G5.drop2.box (.cells (rsC r1 a5 c5) 40)).rot; clear G5 H4)
    | (refine wpList_store_row rfl 40 _ _ rfl v5.heap.size (rsC r1 a5 c5) rfl rfl _ (rsC zeroRv none 0) (World.alloc_heap_new v5 _) (res_size _ _ _) rfl (res_one _ _ _) ?_; rw [setRow_alloc]; generalize v5.alloc (.cells (rsC r1 a5 c5) 40) = w5 at *))
  go_upto_region 9 with (first
    | (refine wpList_load_row rfl 35 _ rfl w3.heap.size rfl _ (enC enJ) _ _ H5.right.right.q.1 Tryz.underlying35 rfl (env_size _) ?_)
    | (go_at_call 14; refine (do_next (c := joinC 6 key u2 1 2)   (en := enJ) H5 hLd hn5 (M := (2199023255552 + 1)) (by decide) hb5 hen (join_ok hkk (i64l 6 rfl) v2 (i64l 2 rfl)) (Rd.old HB2.out) Q2.out).mono ?_; rintro e v6 ⟨a6, c6, own6, rfl, hb6, hn6, G6⟩; have H6 := (G6.drop2.box (.cells (rsC r2 a6 c6) 40)).rot; clear G6 H5)
    | (refine wpList_store_row rfl 40 _ _ rfl v6.heap.size (rsC r2 a6 c6) rfl rfl _ (rsC zeroRv none 0) (World.alloc_heap_new v6 _) (res_size _ _ _) rfl (res_one _ _ _) ?_; rw [setRow_alloc]; generalize v6.alloc (.cells (rsC r2 a6 c6) 40) = w6 at *))
  go_upto_region 10 with (first
    | (refine wpList_load_row rfl 35 _ rfl w3.heap.size rfl _ (enC enJ) _ _ H6.right.right.right.q.1 Tryz.underlying35 rfl (env_size _) ?_)
    | (go_at_call 14; refine (do_next (c := joinC 7 key u3 2 3)   (en := enJ) H6 hLd hn6 (M := (2199023255552 + 1 + 1)) (by decide) hb6 hen (join_ok hkk (i64l 7 rfl) v3 (i64l 3 rfl)) (Rd.old HB3.out) Q3.out).mono ?_; rintro e v7 ⟨a7, c7, own7, rfl, hb7, hn7, G7⟩; have H7 := (G7.drop2.box (.cells (rsC r3 a7 c7) 40)).rot; clear G7 H6)
    | (refine wpList_store_row rfl 40 _ _ rfl v7.heap.size (rsC r3 a7 c7) rfl rfl _ (rsC zeroRv none 0) (World.alloc_heap_new v7 _) (res_size _ _ _) rfl (res_one _ _ _) ?_; rw [setRow_alloc]; generalize v7.alloc (.cells (rsC r3 a7 c7) 40) = w7 at *))
  have x3 := (rs_cells H7.right.q.1).1
  have x2 := (rs_cells H7.right.right.q.1).1
  have x1 := (rs_cells H7.right.right.right.q.1).1
  by_cases s1 : r1.s = 2
  case neg =>
    have HB := hide H7.below
    clear H7
    go_wp2
    go_ret
    exact ⟨rfl, HB.out⟩
  by_cases s2 : r2.s = 2
  case neg =>
    have HB := hide H7.below
    clear H7
    rw [s1] at x1
    go_wp2
    go_ret
    exact ⟨rfl, HB.out⟩
  by_cases s3 : r3.s = 2
  case neg =>
    have HB := hide H7.below
    clear H7
    rw [s1] at x1
    rw [s2] at x2
    go_wp2
    go_ret
    exact ⟨rfl, HB.out⟩
  have HY := hide (HZ.out s1 s2 s3)
  rw [s1] at x1
  rw [s2] at x2
  rw [s3] at x3
  clear s1 s2 s3 HZ
  go_upto_region 12 with fail
  clear x1 x2 x3
  go_upto_region 13 with (first
    | (refine wpList_load_row rfl 35 _ rfl w3.heap.size rfl _ (enC enJ) _ _ H7.right.right.right.right.q.1 Tryz.underlying35 rfl (env_size _) ?_)
    | (go_at_call 14; refine (do_next (c := getC key) (va := none) (vc := 0) (en := enJ) H7 hLd hn7 (M := (2199023255552 + 1 + 1 + 1)) (by decide) hb7 hen (get_ok hkk) Rd.nil Q4.out).mono ?_; rintro e v8 ⟨a8, c8, own8, rfl, hb8, hn8, G8⟩; have H8 := (G8.box (.cells (rsC r4 a8 c8) 40)).rot; clear G8 H7)
    | (refine wpList_store_row rfl 40 _ _ rfl v8.heap.size (rsC r4 a8 c8) rfl rfl _ (rsC zeroRv none 0) (World.alloc_heap_new v8 _) (res_size _ _ _) rfl (res_one _ _ _) ?_; rw [setRow_alloc]; generalize v8.alloc (.cells (rsC r4 a8 c8) 40) = w8 at *))
  obtain ⟨y0, y1, y2, _, y4, _⟩ := rs_cells H8.right.q.1
  have hbs := ValAt.bs H8.right.right.q.1
  obtain ⟨z0, z1, z2, z3⟩ := HY.out
  rw [z0] at y0
  rw [z1] at y1 hbs
  rw [z2] at y2
  rw [z3] at y4
  have c0 := conv_bs hbs
  have c1 := conv_bs (HB1.out.on H8.below)
  have c2 := conv_bs (HB2.out.on H8.below)
  have c3 := conv_bs (HB3.out.on H8.below)
  rw [cat3] at c0
  have e1 := strOf_size u1
  have e2 := strOf_size u2
  have e3 := strOf_size u3
  have HB := hide H8.below
  have l1 := HL1.out
  have l2 := HL2.out
  have l3 := HL3.out
  generalize (u3 ++ (u1 ++ u2)).length = N at *
  generalize strOf (ints u1) = S1 at *
  generalize strOf (ints u2) = S2 at *
  generalize strOf (ints u3) = S3 at *
  have f1 : S3.size + S1.size ≤ 9223372036854775807 := by omega
  have A1 := run_string_add_sum (P := Tryz.prog) (w := w8) S3 S1 f1
  have f2 : (S3 ++ S1).size + S2.size ≤ 9223372036854775807 := by rw [ByteArray.size_append']; omega
  have A2 := run_string_add_sum (P := Tryz.prog) (w := w8) (S3 ++ S1) S2 f2
  generalize S3 ++ S1 = T1 at *
  generalize T1 ++ S2 = T2 at *
  clear H8 hbs z0 z1 z2 z3 HY f1 f2 e1 e2 e3 l1 l2 l3 HL1 HL2 HL3 v1 v2 v3
  go_wp2
  go_ret
  exact ⟨by simp, HB.out⟩
theorem execJoins_walk (L : ShardLib Sh) (w : World) (a : Option Addr) (len cap : Nat) (os : List Op12) (ho : OpsAt w a len cap os) (key : ByteArray) (hkey : key.size ≤ 140737488351232)
    (a1 : Option Addr) (len1 cap1 : Nat) (z1 : List Int) (w1 : IsRow .u8 w a1 len1 cap1 z1) (a2 : Option Addr) (len2 cap2 : Nat) (z2 : List Int) (w2 : IsRow .u8 w a2 len2 cap2 z2) (a3 : Option Addr) (len3 cap3 : Nat) (z3 : List Int) (w3 : IsRow .u8 w a3 len3 cap3 z3) (hLd : Laid w) :
    Calls Tryz.prog 8 #[.slice a len cap, .string key, .slice a1 len1 cap1, .slice a2 len2 cap2, .slice a3 len3 cap3] w fun e w' => e = .returned (.bool true) ∧ Below w.heap.size w w' := by
  obtain ⟨u1, rfl, h1, m1, _⟩ := isRow_bs w1
  obtain ⟨u2, rfl, h2, m2, _⟩ := isRow_bs w2
  obtain ⟨u3, rfl, h3, m3, _⟩ := isRow_bs w3
  exact joins_in L w a len cap os ho key hkey a1 a2 a3 cap1 cap2 cap3 u1 u2 u3 h1 h2 h3 m1 m2 m3 hLd
end Go.Proofs.YthfkcbnabnmnjaaGreatDoor
