/- ExecTouches returns true for every input, and writes nothing that was there. Conditions: the contracts of package shard; the variables of package num. -/
import Derived.Test.YthfkcbnabnmnjabGreatDoorG58Joined
import Derived.Test.YthfkcbnabnmnjabGreatDoorExecU
namespace Go.Proofs.YthfkcbnabnmnjabGreatDoor
set_option linter.unusedVariables false
open Go.RowKit Go.Shelf Go.Sort
variable {Sh : World → Nat → (Nat → Prop) → Nat → Nat → Hs → Prop}

def en5 : En := ⟨5, 0, 0, 0⟩
set_option maxRecDepth 100000 in
set_option maxHeartbeats 8000000 in
theorem execTouches_walk (L : ShardLib Sh) (w : World) (a : Option Addr) (len cap : Nat) (os : List Op12) (ho : OpsAt w a len cap os) (key : ByteArray) (hkey : key.size ≤ 140737488351232) (exp : Int) (wexp : (Lit.int .i64 exp).wf = true) (later : Int) (wlater : (Lit.int .i64 later).wf = true) (gat : Bool) (hLd : Laid w) :
    Calls Tryz.prog 5 #[.slice a len cap, .string key, .int .i64 exp, .int .i64 later, .bool gat] w fun e w' => e = .returned (.bool true) ∧ Below w.heap.size w w' := by
  have HA := hide (fun W (HW : Law w W Part.emp) => awake_any L HW hLd)
  have HF := hide (fun W (hb : Below w.heap.size w W) => few_any (ho.on hb))
  have HD := hide (fun W (HW : Law w W Part.emp) => done_any L HW hLd ho)
  have hm := ho.2
  have HS := hide (Law.start w)
  go_enter Tryz.func5, Tryz.ntmps5
  go_upto_region 4 with (first
    | (go_at_call 6; refine (HA.out _ HS.out).mono ?_; rintro e w1 ⟨rfl, H1⟩; clear HA HS)
    | (go_at_call 7; refine (HF.out _ H1.below).mono ?_; rintro e w2 ⟨⟨fq, rfl, hfq⟩, hg2⟩; have H2 := H1.step hg2; clear H1 hg2 HF)
    | (go_at_call 8; refine (HD.out _ H2).mono ?_; rintro e w3 ⟨b, own, n, st, rfl, hnl, hbd, H3⟩; clear H2 HD))
  have HX := hide H3.below
  cases fq
  case false =>
    go_wp2
    go_ret
    exact ⟨rfl, HX.out⟩
  clear hfq
  by_cases hk : 250 < key.size
  · have hki : (250 : Int) < (key.size : Int) := by omega
    go_wp2
    go_ret
    exact ⟨rfl, HX.out⟩
  have hki : (key.size : Int) ≤ 250 := by omega
  by_cases x1 : exp < 1
  · skip
    go_wp2
    go_ret
    exact ⟨rfl, HX.out⟩
  by_cases x2 : 2592000 < exp
  · skip
    go_wp2
    go_ret
    exact ⟨rfl, HX.out⟩
  by_cases x3 : later < 0
  · skip
    go_wp2
    go_ret
    exact ⟨rfl, HX.out⟩
  by_cases x4 : 5184000 < later
  · skip
    go_wp2
    go_ret
    exact ⟨rfl, HX.out⟩
  have hkk : key.size ≤ 140737488351232 := key_ok (by omega)
  have hn3 : n ≤ 2199023255552 := Nat.le_trans hnl hm
  have y1 : 1 ≤ exp := by omega
  have y2 : exp ≤ 2592000 := by omega
  have y3 : 0 ≤ later := by omega
  have y4 : later ≤ 5184000 := by omega
  have hen : en5.ok := env_ok (i64l 5 rfl)
  have hen2 : (En.mk (5 + later) 0 0 0).ok := env_ok ⟨by omega, by omega⟩
  have hexp : I64 exp := ⟨by omega, by omega⟩
  clear x1 x2 x3 x4 HX wexp wlater
  obtain ⟨op, hop⟩ : ∃ op : Int, op = if gat then 1 else 2 := ⟨_, rfl⟩
  have hop' : op = 1 ∨ op = 2 := by rw [hop]; cases gat <;> simp
  obtain ⟨r1, t1, r2, t2, r3, t3, q1, q2, q3, z⟩ := touches_ex (L.good H3.q.1) 7 key hkk (by rw [hbd]; decide) op exp later hop' y1 y2 y3 y4
  have Q1 := hide q1
  have Q2 := hide q2
  have Q3 := hide q3
  have HZ := hide z
  have HO := hide hop
  have hopi : I64 op := by rcases hop' with rfl | rfl <;> exact i64l _ rfl
  clear q1 q2 q3 z hk hm hnl hop hop'
  go_upto_region 7 with (first
    | (go_at_call 9; refine (do_next (c := setC key [] 0 0 0) (va := none) (vc := 0) (en := en5) H3 hLd hn3 (M := (2199023255552)) (by decide) hbd hen (set_okC hkk (Nat.zero_le _) z64 zu64) Rd.nil Q1.out).mono ?_; rintro e v5 ⟨a5, c5, own5, rfl, hb5, hn5, G5⟩; have H5 := (G5.drop2.box (.cells (rsC r1 a5 c5) 33)).rot; clear G5 H3)
    | (refine wpList_store_row rfl 33 _ _ rfl v5.heap.size (rsC r1 a5 c5) rfl rfl _ (rsC zeroRv none 0) (World.alloc_heap_new v5 _) (res_size _ _ _) rfl (res_one _ _ _) ?_; rw [setRow_alloc]; generalize v5.alloc (.cells (rsC r1 a5 c5) 33) = w5 at *))
  obtain ⟨W5, G5, hop, D5⟩ : ∃ W5, w5 = W5 ∧ (op = if gat then 1 else 2) ∧ True := ⟨_, rfl, HO.out, trivial⟩
  subst G5
  clear D5
  cases gat
  case false =>
    obtain rfl : op = 2 := hop
    go_upto_region 11 with (first
      | (go_at_call 9; refine (do_next (c := bareC 2 key exp) (va := none) (vc := 0) (en := en5) H5 hLd hn5 (M := (2199023255552 + 1)) (by decide) hb5 hen (bare_ok hkk hopi hexp) Rd.nil Q2.out).mono ?_; rintro e v6 ⟨a6, c6, own6, rfl, hb6, hn6, G6⟩; have H6 := (G6.drop2.box (.cells (rsC r2 a6 c6) 33)).rot; clear G6 H5)
      | (refine wpList_store_row rfl 33 _ _ rfl v6.heap.size (rsC r2 a6 c6) rfl rfl _ (rsC zeroRv none 0) (World.alloc_heap_new v6 _) (res_size _ _ _) rfl (res_one _ _ _) ?_; rw [setRow_alloc]; generalize v6.alloc (.cells (rsC r2 a6 c6) 33) = w6 at *))
    go_upto_region 12 with (first
      | (go_at_call 9; refine (do_next (c := getC key) (va := none) (vc := 0) (en := ⟨5 + later, 0, 0, 0⟩) H6 hLd hn6 (M := (2199023255552 + 1 + 1)) (by decide) hb6 hen2 (get_ok hkk) Rd.nil Q3.out).mono ?_; rintro e v7 ⟨a7, c7, own7, rfl, hb7, hn7, G7⟩; have H7 := (G7.drop2.box (.cells (rsC r3 a7 c7) 33)).rot; clear G7 H6)
      | (refine wpList_store_row rfl 33 _ _ rfl v7.heap.size (rsC r3 a7 c7) rfl rfl _ (rsC zeroRv none 0) (World.alloc_heap_new v7 _) (res_size _ _ _) rfl (res_one _ _ _) ?_; rw [setRow_alloc]; generalize v7.alloc (.cells (rsC r3 a7 c7) 33) = w7 at *))
    have x3 := (rs_cells H7.right.q.1).1
    have y3t := (rs_cells H7.right.q.1).2.2.2.2.1
    have x2 := (rs_cells H7.right.right.q.1).1
    have y2t := (rs_cells H7.right.right.q.1).2.2.2.2.1
    have x1 := (rs_cells H7.right.right.right.q.1).1
    have HB := hide H7.below
    clear H7 hb5 hb6 hb7 hn5 hn6 hn7
    by_cases hs : r1.s = 2
    case neg =>
      go_wp2
      go_ret
      exact ⟨rfl, HB.out⟩
    obtain ⟨z1, z2, z3, z4⟩ := HZ.out hs
    rw [hs] at x1
    rw [z1 (by simp)] at x2
    by_cases hl : exp ≤ later
    · rw [z3 hl] at x3
      clear z1 z2 z3 z4 HZ hs
      go_wp2
      go_ret
      exact ⟨rfl, HB.out⟩
    · obtain ⟨zc, zd⟩ := z4 (by omega)
      rw [zc] at x3
      rw [zd] at y3t
      have hl' : later < exp := by omega
      clear z1 z2 z3 z4 HZ hs zc zd hl
      go_wp2
      go_ret
      exact ⟨rfl, HB.out⟩
  case true =>
    obtain rfl : op = 1 := hop
    go_upto_region 11 with (first
      | (go_at_call 9; refine (do_next (c := bareC 1 key exp) (va := none) (vc := 0) (en := en5) H5 hLd hn5 (M := (2199023255552 + 1)) (by decide) hb5 hen (bare_ok hkk hopi hexp) Rd.nil Q2.out).mono ?_; rintro e v6 ⟨a6, c6, own6, rfl, hb6, hn6, G6⟩; have H6 := (G6.drop2.box (.cells (rsC r2 a6 c6) 33)).rot; clear G6 H5)
      | (refine wpList_store_row rfl 33 _ _ rfl v6.heap.size (rsC r2 a6 c6) rfl rfl _ (rsC zeroRv none 0) (World.alloc_heap_new v6 _) (res_size _ _ _) rfl (res_one _ _ _) ?_; rw [setRow_alloc]; generalize v6.alloc (.cells (rsC r2 a6 c6) 33) = w6 at *))
    go_upto_region 12 with (first
      | (go_at_call 9; refine (do_next (c := getC key) (va := none) (vc := 0) (en := ⟨5 + later, 0, 0, 0⟩) H6 hLd hn6 (M := (2199023255552 + 1 + 1)) (by decide) hb6 hen2 (get_ok hkk) Rd.nil Q3.out).mono ?_; rintro e v7 ⟨a7, c7, own7, rfl, hb7, hn7, G7⟩; have H7 := (G7.drop2.box (.cells (rsC r3 a7 c7) 33)).rot; clear G7 H6)
      | (refine wpList_store_row rfl 33 _ _ rfl v7.heap.size (rsC r3 a7 c7) rfl rfl _ (rsC zeroRv none 0) (World.alloc_heap_new v7 _) (res_size _ _ _) rfl (res_one _ _ _) ?_; rw [setRow_alloc]; generalize v7.alloc (.cells (rsC r3 a7 c7) 33) = w7 at *))
    have x3 := (rs_cells H7.right.q.1).1
    have y3t := (rs_cells H7.right.q.1).2.2.2.2.1
    have x2 := (rs_cells H7.right.right.q.1).1
    have y2t := (rs_cells H7.right.right.q.1).2.2.2.2.1
    have x1 := (rs_cells H7.right.right.right.q.1).1
    have HB := hide H7.below
    clear H7 hb5 hb6 hb7 hn5 hn6 hn7
    by_cases hs : r1.s = 2
    case neg =>
      go_wp2
      go_ret
      exact ⟨rfl, HB.out⟩
    obtain ⟨z1, z2, z3, z4⟩ := HZ.out hs
    rw [hs] at x1
    obtain ⟨za, zb⟩ := z2 (by simp)
    rw [za] at x2
    rw [zb] at y2t
    by_cases hl : exp ≤ later
    · rw [z3 hl] at x3
      clear z1 z2 z3 z4 HZ hs za zb
      go_wp2
      go_ret
      exact ⟨rfl, HB.out⟩
    · obtain ⟨zc, zd⟩ := z4 (by omega)
      rw [zc] at x3
      rw [zd] at y3t
      have hl' : later < exp := by omega
      clear z1 z2 z3 z4 HZ hs zc zd hl  za zb
      go_wp2
      go_ret
      exact ⟨rfl, HB.out⟩
end Go.Proofs.YthfkcbnabnmnjabGreatDoor
