/- ExecDeletes returns true for every input, and writes nothing that was there. Conditions: the contracts of package shard; the variables of package num. -/
import Derived.Test.YthfkcbnabnmnjabGreatDoorG58Joined
namespace Go.Proofs.YthfkcbnabnmnjabGreatDoor
set_option linter.unusedVariables false
open Go.RowKit Go.Shelf Go.Sort
variable {Sh : World → Nat → (Nat → Prop) → Nat → Nat → Hs → Prop}

def en5 : En := ⟨5, 0, 0, 0⟩
set_option maxRecDepth 100000 in
set_option maxHeartbeats 8000000 in
theorem execDeletes_walk (L : ShardLib Sh) (w : World) (a : Option Addr) (len cap : Nat) (os : List Op12) (ho : OpsAt w a len cap os) (key : ByteArray) (hkey : key.size ≤ 140737488351232) (hLd : Laid w) :
    Calls Tryz.prog 3 #[.slice a len cap, .string key] w fun e w' => e = .returned (.bool true) ∧ Below w.heap.size w w' := by
  have HA := hide (fun W (HW : Law w W Part.emp) => awake_any L HW hLd)
  have HF := hide (fun W (hb : Below w.heap.size w W) => few_any (ho.on hb))
  have HD := hide (fun W (HW : Law w W Part.emp) => done_any L HW hLd ho)
  have hm := ho.2
  have HS := hide (Law.start w)
  go_enter Tryz.func3, Tryz.ntmps3
  go_upto_region 4 with (first
    | (go_at_call 6; refine (HA.out _ HS.out).mono ?_; rintro e w1 ⟨rfl, H1⟩; clear HA HS)
    | (go_at_call 7; refine (HF.out _ H1.below).mono ?_; rintro e w2 ⟨⟨fq, rfl, hfq⟩, hg2⟩; have H2 := H1.step hg2; clear H1 hg2 HF)
    | (go_at_call 8; refine (HD.out _ H2).mono ?_; rintro e w3 ⟨b, own, n, st, rfl, hnl, hbd, H3⟩; clear H2 HD))
  have HX := hide H3.below
  cases fq
  case false =>
    go_wp2
    go_ret
    exact ⟨rfl, HX.out⟩
  clear hfq
  by_cases hk : 250 < key.size
  · have hki : (250 : Int) < (key.size : Int) := by omega
    go_wp2
    go_ret
    exact ⟨rfl, HX.out⟩
  have hki : (key.size : Int) ≤ 250 := by omega
  have hkk : key.size ≤ 140737488351232 := key_ok (by omega)
  have hn3 : n ≤ 2199023255552 := Nat.le_trans hnl hm
  obtain ⟨r1, t1, t2, t3, t4, t5, t6, q1, z1, q2, q3, q4, q5, q6⟩ := deletes_ex (L.good H3.q.1) 7 key en5
  have hz : r1.s = 5 ∨ r1.s = 1 := z1.imp (fun e => by rw [e]; rfl) (fun e => by rw [e]; rfl)
  have Q1 := hide q1
  have Q2 := hide q2
  have Q3 := hide q3
  have Q4 := hide q4
  have Q5 := hide q5
  have Q6 := hide q6
  have HZ := hide hz
  have hen : en5.ok := env_ok (i64l 5 rfl)
  clear q1 q2 q3 q4 q5 q6 z1 hk hz hm hnl
  go_upto_region 7 with fail
  obtain ⟨w4, hw4⟩ : ∃ w4, w3.alloc (.cells (enC en5) 29) = w4 := ⟨_, rfl⟩
  have H4 := (H3.box (.cells (enC en5) 29)).rot
  rw [hw4] at H4
  rw [show w3.alloc (.cells #[.int .i64 5, .int .u64 0, .int .i64 0, .int .u64 0] 29) = w4 from hw4]
  clear H3 hw4 HX
  go_upto_region 8 with (first
    | (refine wpList_load_row rfl 29 _ rfl w3.heap.size rfl _ (enC en5) _ _ H4.right.q.1 Tryz.underlying29 rfl (env_size _) ?_)
    | (go_at_call 9; refine (do_next (c := delC key 0) (va := none) (vc := 0) (en := en5) H4 hLd hn3 (M := (2199023255552)) (by decide) hbd hen (del_ok hkk zu64) Rd.nil Q1.out).mono ?_; rintro e v5 ⟨a5, c5, own5, rfl, hb5, hn5, G5⟩; have H5 := (G5.drop2.box (.cells (rsC r1 a5 c5) 33)).rot; clear G5 H4)
    | (refine wpList_store_row rfl 33 _ _ rfl v5.heap.size (rsC r1 a5 c5) rfl rfl _ (rsC zeroRv none 0) (World.alloc_heap_new v5 _) (res_size _ _ _) rfl (res_one _ _ _) ?_; rw [setRow_alloc]; generalize v5.alloc (.cells (rsC r1 a5 c5) 33) = w5 at *))
  go_upto_region 9 with (first
    | (refine wpList_load_row rfl 29 _ rfl w3.heap.size rfl _ (enC en5) _ _ H5.right.right.q.1 Tryz.underlying29 rfl (env_size _) ?_)
    | (go_at_call 9; refine (do_next (c := getC key) (va := none) (vc := 0) (en := en5) H5 hLd hn5 (M := (2199023255552 + 1)) (by decide) hb5 hen (get_ok hkk) Rd.nil Q2.out).mono ?_; rintro e v6 ⟨a6, c6, own6, rfl, hb6, hn6, G6⟩; have H6 := (G6.drop2.box (.cells (rsC (onlyR 1) a6 c6) 33)).rot; clear G6 H5)
    | (refine wpList_store_row rfl 33 _ _ rfl v6.heap.size (rsC (onlyR 1) a6 c6) rfl rfl _ (rsC zeroRv none 0) (World.alloc_heap_new v6 _) (res_size _ _ _) rfl (res_one _ _ _) ?_; rw [setRow_alloc]; generalize v6.alloc (.cells (rsC (onlyR 1) a6 c6) 33) = w6 at *))
  go_upto_region 10 with (first
    | (refine wpList_load_row rfl 29 _ rfl w3.heap.size rfl _ (enC en5) _ _ H6.right.right.right.q.1 Tryz.underlying29 rfl (env_size _) ?_)
    | (go_at_call 9; refine (do_next (c := delC key 0) (va := none) (vc := 0) (en := en5) H6 hLd hn6 (M := (2199023255552 + 1 + 1)) (by decide) hb6 hen (del_ok hkk zu64) Rd.nil Q3.out).mono ?_; rintro e v7 ⟨a7, c7, own7, rfl, hb7, hn7, G7⟩; have H7 := (G7.drop2.box (.cells (rsC (onlyR 1) a7 c7) 33)).rot; clear G7 H6)
    | (refine wpList_store_row rfl 33 _ _ rfl v7.heap.size (rsC (onlyR 1) a7 c7) rfl rfl _ (rsC zeroRv none 0) (World.alloc_heap_new v7 _) (res_size _ _ _) rfl (res_one _ _ _) ?_; rw [setRow_alloc]; generalize v7.alloc (.cells (rsC (onlyR 1) a7 c7) 33) = w7 at *))
  go_upto_region 11 with (first
    | (refine wpList_load_row rfl 29 _ rfl w3.heap.size rfl _ (enC en5) _ _ H7.right.right.right.right.q.1 Tryz.underlying29 rfl (env_size _) ?_)
    | (go_at_call 9; refine (do_next (c := bareC 5 key 0) (va := none) (vc := 0) (en := en5) H7 hLd hn7 (M := (2199023255552 + 1 + 1 + 1)) (by decide) hb7 hen (bare_ok hkk (i64l 5 rfl) z64) Rd.nil Q4.out).mono ?_; rintro e v8 ⟨a8, c8, own8, rfl, hb8, hn8, G8⟩; have H8 := (G8.drop2.box (.cells (rsC (onlyR 3) a8 c8) 33)).rot; clear G8 H7)
    | (refine wpList_store_row rfl 33 _ _ rfl v8.heap.size (rsC (onlyR 3) a8 c8) rfl rfl _ (rsC zeroRv none 0) (World.alloc_heap_new v8 _) (res_size _ _ _) rfl (res_one _ _ _) ?_; rw [setRow_alloc]; generalize v8.alloc (.cells (rsC (onlyR 3) a8 c8) 33) = w8 at *))
  go_upto_region 12 with (first
    | (refine wpList_load_row rfl 29 _ rfl w3.heap.size rfl _ (enC en5) _ _ H8.right.right.right.right.right.q.1 Tryz.underlying29 rfl (env_size _) ?_)
    | (go_at_call 9; refine (do_next (c := bareC 2 key 5) (va := none) (vc := 0) (en := en5) H8 hLd hn8 (M := (2199023255552 + 1 + 1 + 1 + 1)) (by decide) hb8 hen (bare_ok hkk (i64l 2 rfl) (i64l 5 rfl)) Rd.nil Q5.out).mono ?_; rintro e v9 ⟨a9, c9, own9, rfl, hb9, hn9, G9⟩; have H9 := (G9.drop2.box (.cells (rsC (onlyR 1) a9 c9) 33)).rot; clear G9 H8)
    | (refine wpList_store_row rfl 33 _ _ rfl v9.heap.size (rsC (onlyR 1) a9 c9) rfl rfl _ (rsC zeroRv none 0) (World.alloc_heap_new v9 _) (res_size _ _ _) rfl (res_one _ _ _) ?_; rw [setRow_alloc]; generalize v9.alloc (.cells (rsC (onlyR 1) a9 c9) 33) = w9 at *))
  go_upto_region 13 with (first
    | (refine wpList_load_row rfl 29 _ rfl w3.heap.size rfl _ (enC en5) _ _ H9.right.right.right.right.right.right.q.1 Tryz.underlying29 rfl (env_size _) ?_)
    | (go_at_call 9; refine (do_next (c := staleC key) (va := none) (vc := 0) (en := en5) H9 hLd hn9 (M := (2199023255552 + 1 + 1 + 1 + 1 + 1)) (by decide) hb9 hen (stale_ok hkk) Rd.nil Q6.out).mono ?_; rintro e v10 ⟨a10, c10, own10, rfl, hb10, hn10, G10⟩; have H10 := (G10.drop2.box (.cells (rsC (onlyR 1) a10 c10) 33)).rot; clear G10 H9)
    | (refine wpList_store_row rfl 33 _ _ rfl v10.heap.size (rsC (onlyR 1) a10 c10) rfl rfl _ (rsC zeroRv none 0) (World.alloc_heap_new v10 _) (res_size _ _ _) rfl (res_one _ _ _) ?_; rw [setRow_alloc]; generalize v10.alloc (.cells (rsC (onlyR 1) a10 c10) 33) = w10 at *))
  have x6 := (rs_cells H10.right.q.1).1
  have x5 := (rs_cells H10.right.right.q.1).1
  have x4 := (rs_cells H10.right.right.right.q.1).1
  have x3 := (rs_cells H10.right.right.right.right.q.1).1
  have x2 := (rs_cells H10.right.right.right.right.right.q.1).1
  have x1 := (rs_cells H10.right.right.right.right.right.right.q.1).1
  have HB := hide H10.below
  clear H10
  rcases HZ.out with e | e
  all_goals
    rw [e] at x1
    clear e
    go_wp2
    go_ret
    exact ⟨rfl, HB.out⟩
end Go.Proofs.YthfkcbnabnmnjabGreatDoor
