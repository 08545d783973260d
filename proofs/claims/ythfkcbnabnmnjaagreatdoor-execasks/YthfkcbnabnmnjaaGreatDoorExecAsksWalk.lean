/- ExecAsks returns true for every input, and writes nothing that was there. Conditions: the contracts of package shard; the variables of package num. -/
import Derived.Test.YthfkcbnabnmnjaaGreatDoorG53Joined
import Derived.Test.YthfkcbnabnmnjaaGreatDoorSame12
namespace Go.Proofs.YthfkcbnabnmnjaaGreatDoor
set_option linter.unusedVariables false
open Go.RowKit Go.Shelf Go.Sort
variable {Sh : World → Nat → (Nat → Prop) → Nat → Nat → Hs → Prop}

set_option maxRecDepth 100000 in
set_option maxHeartbeats 8000000 in
theorem execAsks_walk (L : ShardLib Sh) (w : World) (a : Option Addr) (len cap : Nat) (os : List Op12) (ho : OpsAt w a len cap os) (key : ByteArray) (hkey : key.size ≤ 140737488351232) (other : ByteArray) (hother : other.size ≤ 140737488351232) (now : Int) (wnow : (Lit.int .i64 now).wf = true) (hLd : Laid w) :
    Calls Tryz.prog 5 #[.slice a len cap, .string key, .string other, .int .i64 now] w fun e w' => e = .returned (.bool true) ∧ Below w.heap.size w w' := by
  have HA := hide (fun W (HW : Law w W Part.emp) => awake_any L HW hLd)
  have HF := hide (fun W (hb : Below w.heap.size w W) => few_any (ho.on hb))
  have HD := hide (fun W (HW : Law w W Part.emp) => done_any L HW hLd ho)
  have hm := ho.2
  have HS := hide (Law.start w)
  go_enter Tryz.func5, Tryz.ntmps5
  go_upto_region 4 with (first
    | (go_at_call 9; refine (HA.out _ HS.out).mono ?_; rintro e w1 ⟨rfl, H1⟩; clear HA HS)
    | (go_at_call 10; refine (HF.out _ H1.below).mono ?_; rintro e w2 ⟨⟨fq, rfl, hfq⟩, hg2⟩; have H2 := H1.step hg2; clear H1 hg2 HF)
    | (go_at_call 24; refine (HD.out _ H2).mono ?_; rintro e w3 ⟨b, own, n, st, rfl, hnl, hbd, H3⟩; clear H2 HD))
  have HX := hide H3.below
  cases fq
  case false =>
    go_wp2
    go_ret
    exact ⟨rfl, HX.out⟩
  clear hfq
  by_cases o0 : 300 < key.size
  · skip
    have hki : (300 : Int) < (key.size : Int) := by omega
    go_wp2
    go_ret
    exact ⟨rfl, HX.out⟩
  have hki : (key.size : Int) ≤ 300 := by omega
  by_cases p1 : 300 < other.size
  · have hpi : (300 : Int) < (other.size : Int) := by omega
    go_wp2
    go_ret
    exact ⟨rfl, HX.out⟩
  have hpi : (other.size : Int) ≤ 300 := by omega
  by_cases p2 : now < 1
  · skip
    go_wp2
    go_ret
    exact ⟨rfl, HX.out⟩
  by_cases p3 : 1099511627776 < now
  · skip
    go_wp2
    go_ret
    exact ⟨rfl, HX.out⟩
  have hkk : key.size ≤ 140737488351232 := key_ok (by omega)
  have hok : other.size ≤ 140737488351232 := key_ok (by omega)
  have h0k : (⟨#[]⟩ : ByteArray).size ≤ 140737488351232 := by decide
  have hn3 : n ≤ 2199023255552 := Nat.le_trans hnl hm
  have y2 : 1 ≤ now := by omega
  have y3 : now ≤ 1099511627776 := by omega
  have hen : (En.mk now 0 0 0).ok := env_ok ⟨by omega, by omega⟩
  obtain ⟨r1, t1, r2, t2, t3, q1, q2, q3, q4, q5, z⟩ := asks_ex (L.good H3.q.1) 7 key other hkk hok hen (by rw [hbd]; decide)
  have Q1 := hide q1
  have Q2 := hide q2
  have Q3 := hide q3
  have Q4 := hide q4
  have Q5 := hide q5
  have HZ := hide z
  clear q1 q2 q3 q4 q5 z hm hnl o0 p1 p2 p3 wnow
  go_upto_region 7 with fail
  obtain ⟨w4, hw4⟩ : ∃ w4, w3.alloc (.cells (enC ⟨now, 0, 0, 0⟩) 35) = w4 := ⟨_, rfl⟩
  have H4 := (H3.box (.cells (enC ⟨now, 0, 0, 0⟩) 35)).rot
  rw [hw4] at H4
  rw [show w3.alloc (.cells #[.int .i64 now, .int .u64 0, .int .i64 0, .int .u64 0] 35) = w4 from hw4]
  clear H3 hw4 HX
  go_upto_region 8 with (first
    | (refine wpList_load_row rfl 35 _ rfl w3.heap.size rfl _ (enC ⟨now, 0, 0, 0⟩) _ _ H4.right.q.1 Tryz.underlying35 rfl (env_size _) ?_)
    | (go_at_call 14; refine (do_next (c := getC key) (va := none) (vc := 0) (en := ⟨now, 0, 0, 0⟩) H4 hLd hn3 (M := (2199023255552)) (by decide) hbd hen (get_ok hkk) Rd.nil Q1.out).mono ?_; rintro e v5 ⟨a5, c5, own5, rfl, hb5, hn5, G5⟩; have H5 := (G5.box (.cells (rsC r1 a5 c5) 40)).rot; clear G5 H4)
    | (refine wpList_store_row rfl 40 _ _ rfl v5.heap.size (rsC r1 a5 c5) rfl rfl _ (rsC zeroRv none 0) (World.alloc_heap_new v5 _) (res_size _ _ _) rfl (res_one _ _ _) ?_; rw [setRow_alloc]; generalize v5.alloc (.cells (rsC r1 a5 c5) 40) = w5 at *))
  go_upto_region 9 with (first
    | (refine wpList_load_row rfl 35 _ rfl w3.heap.size rfl _ (enC ⟨now, 0, 0, 0⟩) _ _ H5.right.right.right.q.1 Tryz.underlying35 rfl (env_size _) ?_)
    | (go_at_call 14; refine (do_next (c := getC other) (va := none) (vc := 0) (en := ⟨now, 0, 0, 0⟩) H5 hLd hn5 (M := (2199023255552 + 1)) (by decide) hb5 hen (get_ok hok) Rd.nil Q2.out).mono ?_; rintro e w6 ⟨a6, c6, own6, rfl, hb6, hn6, G6⟩; have H6 := G6.drop2; clear G6 H5))
  go_upto_region 10 with (first
    | (refine wpList_load_row rfl 35 _ rfl w3.heap.size rfl _ (enC ⟨now, 0, 0, 0⟩) _ _ H6.right.right.right.q.1 Tryz.underlying35 rfl (env_size _) ?_)
    | (go_at_call 14; refine (do_next (c := bareC 14 ⟨#[]⟩ 0) (va := none) (vc := 0) (en := ⟨now, 0, 0, 0⟩) H6 hLd hn6 (M := (2199023255552 + 1 + 1)) (by decide) hb6 hen (bare_ok h0k (i64l 14 rfl) z64) Rd.nil Q3.out).mono ?_; rintro e w7 ⟨a7, c7, own7, rfl, hb7, hn7, G7⟩; have H7 := G7.drop2; clear G7 H6))
  go_upto_region 11 with (first
    | (refine wpList_load_row rfl 35 _ rfl w3.heap.size rfl _ (enC ⟨now, 0, 0, 0⟩) _ _ H7.right.right.right.q.1 Tryz.underlying35 rfl (env_size _) ?_)
    | (go_at_call 14; refine (do_next (c := bareC 15 ⟨#[]⟩ 0) (va := none) (vc := 0) (en := ⟨now, 0, 0, 0⟩) H7 hLd hn7 (M := (2199023255552 + 1 + 1 + 1)) (by decide) hb7 hen (bare_ok h0k (i64l 15 rfl) z64) Rd.nil Q4.out).mono ?_; rintro e w8 ⟨a8, c8, own8, rfl, hb8, hn8, G8⟩; have H8 := G8.drop2; clear G8 H7))
  go_upto_region 12 with (first
    | (refine wpList_load_row rfl 35 _ rfl w3.heap.size rfl _ (enC ⟨now, 0, 0, 0⟩) _ _ H8.right.right.right.q.1 Tryz.underlying35 rfl (env_size _) ?_)
    | (go_at_call 14; refine (do_next (c := getC key) (va := none) (vc := 0) (en := ⟨now, 0, 0, 0⟩) H8 hLd hn8 (M := (2199023255552 + 1 + 1 + 1 + 1)) (by decide) hb8 hen (get_ok hkk) Rd.nil Q5.out).mono ?_; rintro e v9 ⟨a9, c9, own9, rfl, hb9, hn9, G9⟩; have H9 := (G9.box (.cells (rsC r1 a9 c9) 40)).rot; clear G9 H8)
    | (refine wpList_store_row rfl 40 _ _ rfl v9.heap.size (rsC r1 a9 c9) rfl rfl _ (rsC zeroRv none 0) (World.alloc_heap_new v9 _) (res_size _ _ _) rfl (res_one _ _ _) ?_; rw [setRow_alloc]; generalize v9.alloc (.cells (rsC r1 a9 c9) 40) = w9 at *))
  have i1 := H9.right.right.right.q.1
  have i5 := H9.right.q.1
  have b1 := ValAt.bs H9.right.right.right.right.q.1
  have b5 := ValAt.bs H9.right.right.q.1
  have HB := hide H9
  have HSM := hide (same12_any b1 b5)
  have x1 := (rs_cells i1).1
  clear b1 b5 H9
  rcases HZ.out with e | e
  all_goals
    rw [e] at x1
    clear e
    go_wp2_with (first
    | (refine wpList_load_row rfl 40 _ rfl v5.heap.size rfl _ _ _ _ i1 Tryz.underlying40 rfl (res_size _ _ _) ?_)
    | (refine wpList_load_row rfl 40 _ rfl v9.heap.size rfl _ _ _ _ i5 Tryz.underlying40 rfl (res_size _ _ _) ?_)
    | (go_at_call 13; refine HSM.out.mono ?_; rintro e w10 ⟨rfl, hg⟩; have HB2 := HB.out.step hg; have x2 := cell_gn x1 hg; clear hg x1 i1 i5))
    go_ret
    exact ⟨rfl, HB2.below⟩
end Go.Proofs.YthfkcbnabnmnjaaGreatDoor
