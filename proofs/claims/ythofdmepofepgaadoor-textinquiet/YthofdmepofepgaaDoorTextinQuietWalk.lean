/- TextinQuiet returns true for every text, and writes nothing that was there. Conditions: the listed variables hold what the program's text lays. -/
import Derived.Test.YthofdmepofepgaaDoorTextQuM
import Derived.Test.YthofdmepofepgaaDoorTextinEndsWalk
namespace Go.Proofs.YthofdmepofepgaaDoor
set_option linter.unusedVariables false
open Go.RowKit

theorem set_quietS (s : Sv) (b : Bool) (ca ta ka : Option Addr) (cc tc kc : Nat) : (stC s ca cc ta tc ka kc).setIfInBounds 5 (.bool b) = stC { s with req := { s.req with form := { s.req.form with quiet := b } } } ca cc ta tc ka kc := by simp [stC]
theorem loud_again {d : Dv} (h : d.quiet = false) (u : Int) : ({ (⟨reqD { d with quiet := true }, ⟨#[]⟩, u, 0, false, 0⟩ : Sv) with req := { (reqD { d with quiet := true }) with form := { (reqD { d with quiet := true }).form with quiet := false } } } : Sv) = ⟨reqD d, ⟨#[]⟩, u, 0, false, 0⟩ := by
  obtain ⟨a1, a2, a3, a4, a5, a6, a7, a8, a9, a10, a11, a12, a13⟩ := d
  simp only at h
  subst h
  rfl
/-- The one command's kind. -/
theorem one_op {w : World} {s : Sv} {c : Cv} {ca ta ka : Option Addr} {cc tc kc : Nat} (hc : s.req.cmds = [c]) (h : StepAt w s (stC s ca cc ta tc ka kc)) : ∃ b off, ca = some ⟨b, off, none⟩ ∧ w.cell? ⟨b, off, none⟩ = some (.int .i64 c.op) := by
  have hq := h.q.cmds
  rw [hc] at hq
  obtain ⟨b, off, e, va, vc, h1, h2⟩ := hq.get (i := 0) (by simp)
  refine ⟨b, off, e, ?_⟩
  have := h1 0 (.int .i64 c.op) rfl
  rw [Nat.zero_mul] at this
  exact this
/-- What was quiet is loud again, and takes fewer bytes. -/
theorem quiet_put {w W3 : World} {P1 P2 : Nat} {s1 s2 : Sv} {d : Dv} {u u' : Int} {ca ta ka cb tb kb : Option Addr} {cc tc kc cd td kd : Nat} (T2 : TwoAt w W3 P1 P2 s1 s2 ca ta ka cb tb kb cc tc kc cd td kd) (h1 : s1 = ⟨reqD d, ⟨#[]⟩, u, 0, false, 0⟩) (h2 : d.quiet = false) (h3 : s2 = ⟨reqD { d with quiet := true }, ⟨#[]⟩, u', 0, false, 0⟩) (z : Int) (hz : z = u) :
    TwoAt w ((W3.setCell ⟨P2, 5, none⟩ (.bool false)).setCell ⟨P2, 12, none⟩ (.int .i64 z)) P1 P2 s1 s1 ca ta ka cb tb kb cc tc kc cd td kd := by
  subst h3
  have A := T2.put2 (s' := ⟨reqD d, ⟨#[]⟩, u', 0, false, 0⟩) 5 (.bool false) (by rw [set_quietS, loud_again h2]) (fun _ h => ⟨h.cmds, h.toks, h.keys⟩)
  subst hz h1
  exact A.put2 12 (.int .i64 z) (set_used _ _ _ _ _ _ _ _) (fun _ h => h)
section
variable {W : World}
set_option maxRecDepth 100000 in
set_option maxHeartbeats 4000000 in
theorem quiet_in (hL : Laid W) (s : ByteArray) (hs : s.size ≤ 500) : Calls Tryd.prog 5 #[.string s] W fun e W' => e = .returned (.bool true) ∧ Below W.heap.size W W' := by
  have hsi : ¬ (500 : Int) < (s.size : Int) := by omega
  have HB := hide hs
  go_enter Tryd.func5, Tryd.ntmps5
  go_wp2_with (go_at_call 8; refine (awake_any hL).mono ?_; rintro e w1 ⟨rfl, g1⟩; replace g1 := hide g1)
  go_loopw [4] (fun i wr => EInv s w1 i wr) (fun i _ => s.size - (intOf i).toNat)
  case atStart => exact ⟨0, Nat.zero_le _, rfl, rfl, fun i _ h => by omega⟩
  case round =>
    obtain ⟨k, hk, rfl, rfl, HC⟩ := hrel
    by_cases hlt : k < s.size
    · have hki := int_lt hlt
      have e1 : wrap64 ((k : Int) + 1) = (k : Int) + 1 := by unfold wrap64; omega
      by_cases h10 : (s[k]'hlt) = 10
      · have q10 : ((s[k]'hlt).toNat : Int) = 10 := by rw [h10]; rfl
        clear h10
        go_wp2
        go_ret
        exact ⟨rfl, below_gr g1.out⟩
      · have q10 : ¬ ((s[k]'hlt).toNat : Int) = 10 := byte_of (d := 10) rfl h10
        by_cases h13 : (s[k]'hlt) = 13
        · have q13 : ((s[k]'hlt).toNat : Int) = 13 := by rw [h13]; rfl
          clear h13 h10
          go_wp2
          go_ret
          exact ⟨rfl, below_gr g1.out⟩
        · have q13 : ¬ ((s[k]'hlt).toNat : Int) = 13 := byte_of (d := 13) rfl h13
          have HC2 := hide (HC.out.next hlt h10 h13)
          obtain ⟨c, hcc⟩ : ∃ c : Int, c = ((s[k]'hlt).toNat : Int) := ⟨_, rfl⟩
          have b10 : (c == 10) = false := by rw [hcc]; simpa using q10
          have b13 : (c == 13) = false := by rw [hcc]; simpa using q13
          have hc' : ((s[k]'hlt).toNat : Int) = c := hcc.symm
          clear h13 h10 q10 q13 hcc
          go_wp2
          go_roundw
          case rel => exact ⟨k + 1, by omega, by go_num, rfl, HC2.out⟩
          case measure => simp [intOf]; omega
    · obtain rfl : k = s.size := by omega
      have hki := int_nlt s.size
      obtain ⟨n10, n13⟩ := HC.out.all
      have hlen := size_list s
      have hL1 := hL.on (below_gr g1.out)
      have m10 : (10 : UInt8) ∉ s.data.toList ++ 32 :: t_noreply := fun h => by
        rcases List.mem_append.1 h with h | h
        · exact n10 h
        · exact absurd h (by decide)
      have f1 : parseN (s.data.toList ++ [13, 10]) = lineS (wordsL s.data.toList) [] ((s.data.toList.length + 2 : Nat) : Int) := parse_crlf [] n10 (by omega)
      have f2 : parseN ((s.data.toList ++ 32 :: t_noreply) ++ [13, 10]) = lineS (wordsL s.data.toList ++ [t_noreply]) [] ((s.data.toList.length + 10 : Nat) : Int) := by
        have := parse_crlf [] m10 (by rw [List.length_append]; show s.data.toList.length + 8 ≤ 2048; omega)
        rw [this, words_noreply, List.length_append]
        rfl
      have HQ := hide (fun (he : (parseN (s.data.toList ++ [13, 10])).e = 0) (hq : (parseN (s.data.toList ++ [13, 10])).req.form.quiet = false) (c : Cv) (hc : (parseN (s.data.toList ++ [13, 10])).req.cmds = [c]) (hop : c.op = 8 ∨ c.op = 2 ∨ c.op = 10 ∨ c.op = 11 ∨ c.op = 13) => by
        rw [f1] at he hq hc
        have := quiet_line (u' := ((s.data.toList.length + 10 : Nat) : Int)) he hq hc hop
        rw [← f1, ← f2] at this
        exact this)
      have HF : Hid (Few1 (parseN (s.data.toList ++ [13, 10])).req) := by
        show Few1 _
        rw [f1]
        exact line_few _ _ _ (by have := wordsL_len s.data.toList; omega)
      obtain ⟨x1, v1, k1, C1⟩ := text_parse hL1 (s ++ ⟨#[13, 10]⟩) (by rw [cat_size]; show s.size + 2 ≤ _; omega)
      rw [cat_list] at C1
      rw [show (s ++ (⟨#[13, 10]⟩ : ByteArray)).size = s.size + 2 from cat_size s #[13, 10]] at k1 C1
      have o1 : ¬ 9223372036854775807 < s.size + 2 := by omega
      have o2 : ¬ 9223372036854775807 < s.size + 10 := by omega
      have HSZ : Hid ((s ++ (⟨#[32, 110, 111, 114, 101, 112, 108, 121, 13, 10]⟩ : ByteArray)).size = s.size + 10) := cat_size s #[32, 110, 111, 114, 101, 112, 108, 121, 13, 10]
      have HT := hide (fun (w : World) (hg : wr.grownBy w none) => text_parse (hL1.on (below_gr hg)) (s ++ ⟨#[32, 110, 111, 114, 101, 112, 108, 121, 13, 10]⟩) (by rw [HSZ.out]; omega))
      have HCAT : Hid ((s ++ (⟨#[32, 110, 111, 114, 101, 112, 108, 121, 13, 10]⟩ : ByteArray)).data.toList = (s.data.toList ++ 32 :: t_noreply) ++ [13, 10]) := by
        show _ = _
        rw [cat_list, List.append_assoc]
        rfl
      clear f1 f2 m10
      generalize parseN (s.data.toList ++ [13, 10]) = s1 at *
      obtain ⟨s2, hs2⟩ : ∃ s2, s2 = parseN ((s.data.toList ++ 32 :: t_noreply) ++ [13, 10]) := ⟨_, rfl⟩
      rw [← hs2] at HQ
      replace hs2 := hide hs2
      replace C1 := hide C1
      have N0 : Hid (W = W) := rfl
      clear HC n10 n13
      by_cases he : s1.e = 0
      · by_cases hn : s1.req.cmds.length = 1
        · obtain ⟨c, hc⟩ := List.length_eq_one_iff.1 hn
          cases hq : s1.req.form.quiet
          · by_cases hop : c.op = 8 ∨ c.op = 2 ∨ c.op = 10 ∨ c.op = 11 ∨ c.op = 13
            · have HN := hide hn
              have HQ5 := hide hq
              have HC1 := hide hc
              have HE0 := hide he
              obtain ⟨d, hd1, hd2, hd3⟩ := HQ.out he hq c hc hop
              have HD1 := hide hd1
              have HD2 := hide hd2
              have HD3 := hide hd3
              have HLEN := hide hlen
              have HZ : Hid ((s.size : Int) + 10 - 8 = ((s.size + 2 : Nat) : Int)) := by show (s.size : Int) + 10 - 8 = ((s.size + 2 : Nat) : Int); omega
              obtain ⟨op, hopp⟩ : ∃ op, c.op = op := ⟨_, rfl⟩
              rw [hopp] at hop
              have HOP := hide hopp
              clear HQ hc he hn hq hd1 hd2 hd3 hopp
              rcases hop with h | h | h | h | h
              all_goals
                subst h
                go_wp2_with (first
                  | (go_at_call 9; have t := N0; clear t; refine C1.out.mono ?_; rintro e w2 ⟨ca, cc, ta, tc, ka, kc, rfl, q1, g2⟩; obtain ⟨W2, hW2⟩ : ∃ W2, W2 = w2.alloc (.cells (stC s1 ca cc ta tc ka kc) 33) := ⟨_, rfl⟩; obtain ⟨P1, hP1⟩ : ∃ P1, P1 = w2.heap.size := ⟨_, rfl⟩; replace q1 := hide q1; replace g2 := hide g2; clear N0; have N1 : Hid (W = W) := rfl)
                  | (have t := N1; clear t; refine wpList_store_row rfl 33 _ _ rfl w2.heap.size (stC s1 ca cc ta tc ka kc) rfl rfl _ _ (World.alloc_heap_new w2 _) (step_size _ _ _ _ _ _ _) rfl (step_one _ _ _ _ _ _ _) ?_; rw [setRow_alloc, ← hW2, ← hP1]; clear N1; replace hW2 := hide hW2; replace hP1 := hide hP1; obtain ⟨x2, v2, k2, C2⟩ := HT.out W2 (gr_trans g2.out (by rw [hW2.out]; exact World.grownBy_alloc _ _ _)); rw [HCAT.out, ← hs2.out] at C2; rw [HSZ.out] at k2 C2; replace C2 := hide C2; have N2 : Hid (W = W) := rfl)
                  | (go_at_call 9; have t := N2; clear t; refine C2.out.mono ?_; rintro e w3 ⟨cb, cd, tb, td, kb, kd, rfl, q2, g3⟩; obtain ⟨W3, hW3⟩ : ∃ W3, W3 = w3.alloc (.cells (stC s2 cb cd tb td kb kd) 33) := ⟨_, rfl⟩; obtain ⟨P2, hP2⟩ : ∃ P2, P2 = w3.heap.size := ⟨_, rfl⟩; replace q2 := hide q2; replace g3 := hide g3; clear N2; have N3 : Hid (W = W) := rfl)
                  | (have t := N3; clear t; refine wpList_store_row rfl 33 _ _ rfl w3.heap.size (stC s2 cb cd tb td kb kd) rfl rfl _ _ (World.alloc_heap_new w3 _) (step_size _ _ _ _ _ _ _) rfl (step_one _ _ _ _ _ _ _) ?_; rw [setRow_alloc, ← hW3, ← hP2]; clear N3; have T2 := two_of q1.out g2.out hW2.out hP1.out q2.out g3.out hW3 hP2; clear hW3 hP2 hW2 hP1 q1 q2 g2 g3; have y0 := st_at T2.b1 0 (.slice ca s1.req.cmds.length cc) rfl; have y5 := st_at T2.b1 5 (.bool s1.req.form.quiet) rfl; have y3 := (st_cells T2.b1).2.2.2.2; rw [HN.out] at y0; rw [HQ5.out] at y5; rw [HE0.out] at y3; obtain ⟨ob, oo, rfl, yop⟩ := one_op HC1.out T2.now.1; rw [HOP.out] at yop; have z5 : W3.cell? ⟨P2, 5, none⟩ = some (.bool true) := (by have := st_at T2.b2 5 (.bool s2.req.form.quiet) rfl; rw [HD3.out] at this; exact this); have z12 : W3.cell? ⟨P2, 12, none⟩ = some (.int .i64 ((s.size : Int) + 10)) := (by have := (st_cells T2.b2).2.1; rw [HD3.out, HLEN.out] at this; exact this); have f5 : W3.frozen? ⟨P2, 5, none⟩ = false := frozen_of_row _ _ _ _ _ T2.b2; have f12 : W3.frozen? ⟨P2, 12, none⟩ = false := frozen_of_row _ _ _ _ _ T2.b2; have T3 := quiet_put T2 HD1.out HD2.out HD3.out ((s.size : Int) + 10 - 8) (by rw [HLEN.out]; exact HZ.out); obtain ⟨W4, hW4⟩ : ∃ W4, W4 = (W3.setCell ⟨P2, 5, none⟩ (.bool false)).setCell ⟨P2, 12, none⟩ (.int .i64 ((s.size : Int) + 10 - 8)) := ⟨_, rfl⟩; rw [← hW4] at T3; have ST := hide (steps_eq HF.out T3.now.1 T3.now.2); replace T3 := hide T3; replace hW4 := hide hW4; clear T2; have N4 : Hid (W = W) := rfl)
                  | (have t := N4; clear t; rw [← hW4.out]; refine wpList_load_row rfl 33 _ rfl P1 rfl _ _ _ _ T3.out.b1 Tryd.underlying33 rfl (step_size _ _ _ _ _ _ _) ?_; clear N4; have N5 : Hid (W = W) := rfl)
                  | (have t := N5; clear t; refine wpList_load_row rfl 33 _ rfl P2 rfl _ _ _ _ T3.out.b2 Tryd.underlying33 rfl (step_size _ _ _ _ _ _ _) ?_; clear N5)
                  | (go_at_call 11; refine ST.out.mono ?_; rintro e w9 ⟨rfl, g9⟩; replace g9 := hide (gr_trans T3.out.gr g9)))
                go_ret
                exact ⟨by first | rfl | (simp; done), below_gr (gr_trans g1.out g9.out)⟩
            · have HN := hide hn
              have HQ5 := hide hq
              have HC1 := hide hc
              have HE0 := hide he
              obtain ⟨op, hopp⟩ : ∃ op, c.op = op := ⟨_, rfl⟩
              rw [hopp] at hop
              have HOP := hide hopp
              have p8 : (op != 8) = true := by simpa using fun h => hop (.inl h)
              have p2 : (op != 2) = true := by simpa using fun h => hop (.inr (.inl h))
              have p10 : (op != 10) = true := by simpa using fun h => hop (.inr (.inr (.inl h)))
              have p11 : (op != 11) = true := by simpa using fun h => hop (.inr (.inr (.inr (.inl h))))
              have p13 : (op != 13) = true := by simpa using fun h => hop (.inr (.inr (.inr (.inr h))))
              clear HQ hc he hn hq hopp hop
              go_wp2_with (first
                | (go_at_call 9; have t := N0; clear t; refine C1.out.mono ?_; rintro e w2 ⟨ca, cc, ta, tc, ka, kc, rfl, q1, g2⟩; obtain ⟨W2, hW2⟩ : ∃ W2, W2 = w2.alloc (.cells (stC s1 ca cc ta tc ka kc) 33) := ⟨_, rfl⟩; obtain ⟨P1, hP1⟩ : ∃ P1, P1 = w2.heap.size := ⟨_, rfl⟩; replace q1 := hide q1; replace g2 := hide g2; clear N0; have N1 : Hid (W = W) := rfl)
                | (have t := N1; clear t; refine wpList_store_row rfl 33 _ _ rfl w2.heap.size (stC s1 ca cc ta tc ka kc) rfl rfl _ _ (World.alloc_heap_new w2 _) (step_size _ _ _ _ _ _ _) rfl (step_one _ _ _ _ _ _ _) ?_; rw [setRow_alloc, ← hW2, ← hP1]; clear N1; replace hW2 := hide hW2; replace hP1 := hide hP1; obtain ⟨x2, v2, k2, C2⟩ := HT.out W2 (gr_trans g2.out (by rw [hW2.out]; exact World.grownBy_alloc _ _ _)); rw [HCAT.out, ← hs2.out] at C2; rw [HSZ.out] at k2 C2; replace C2 := hide C2; have N2 : Hid (W = W) := rfl)
                | (go_at_call 9; have t := N2; clear t; refine C2.out.mono ?_; rintro e w3 ⟨cb, cd, tb, td, kb, kd, rfl, q2, g3⟩; obtain ⟨W3, hW3⟩ : ∃ W3, W3 = w3.alloc (.cells (stC s2 cb cd tb td kb kd) 33) := ⟨_, rfl⟩; obtain ⟨P2, hP2⟩ : ∃ P2, P2 = w3.heap.size := ⟨_, rfl⟩; replace q2 := hide q2; replace g3 := hide g3; clear N2; have N3 : Hid (W = W) := rfl)
                | (have t := N3; clear t; refine wpList_store_row rfl 33 _ _ rfl w3.heap.size (stC s2 cb cd tb td kb kd) rfl rfl _ _ (World.alloc_heap_new w3 _) (step_size _ _ _ _ _ _ _) rfl (step_one _ _ _ _ _ _ _) ?_; rw [setRow_alloc, ← hW3, ← hP2]; clear N3; have T2 := two_of q1.out g2.out hW2.out hP1.out q2.out g3.out hW3 hP2; clear hW3 hP2 hW2 hP1 q1 q2 g2 g3; have y0 := st_at T2.b1 0 (.slice ca s1.req.cmds.length cc) rfl; have y5 := st_at T2.b1 5 (.bool s1.req.form.quiet) rfl; have y3 := (st_cells T2.b1).2.2.2.2; rw [HN.out] at y0; rw [HQ5.out] at y5; rw [HE0.out] at y3; obtain ⟨ob, oo, rfl, yop⟩ := one_op HC1.out T2.now.1; rw [HOP.out] at yop; replace T2 := hide T2; have N4 : Hid (W = W) := rfl))
              go_ret
              exact ⟨by first | rfl | (simp; done), below_gr (gr_trans g1.out T2.out.gr)⟩
          · have e5 : (s1.e != 0) = false := by simpa using he
            have HN := hide hn
            have HQ5 := hide hq
            clear HQ hc he hn hq
            go_wp2_with (first
              | (go_at_call 9; have t := N0; clear t; refine C1.out.mono ?_; rintro e w2 ⟨ca, cc, ta, tc, ka, kc, rfl, q1, g2⟩; obtain ⟨W2, hW2⟩ : ∃ W2, W2 = w2.alloc (.cells (stC s1 ca cc ta tc ka kc) 33) := ⟨_, rfl⟩; obtain ⟨P1, hP1⟩ : ∃ P1, P1 = w2.heap.size := ⟨_, rfl⟩; replace q1 := hide q1; replace g2 := hide g2; clear N0; have N1 : Hid (W = W) := rfl)
              | (have t := N1; clear t; refine wpList_store_row rfl 33 _ _ rfl w2.heap.size (stC s1 ca cc ta tc ka kc) rfl rfl _ _ (World.alloc_heap_new w2 _) (step_size _ _ _ _ _ _ _) rfl (step_one _ _ _ _ _ _ _) ?_; rw [setRow_alloc, ← hW2, ← hP1]; clear N1; replace hW2 := hide hW2; replace hP1 := hide hP1; obtain ⟨x2, v2, k2, C2⟩ := HT.out W2 (gr_trans g2.out (by rw [hW2.out]; exact World.grownBy_alloc _ _ _)); rw [HCAT.out, ← hs2.out] at C2; rw [HSZ.out] at k2 C2; replace C2 := hide C2; have N2 : Hid (W = W) := rfl)
              | (go_at_call 9; have t := N2; clear t; refine C2.out.mono ?_; rintro e w3 ⟨cb, cd, tb, td, kb, kd, rfl, q2, g3⟩; obtain ⟨W3, hW3⟩ : ∃ W3, W3 = w3.alloc (.cells (stC s2 cb cd tb td kb kd) 33) := ⟨_, rfl⟩; obtain ⟨P2, hP2⟩ : ∃ P2, P2 = w3.heap.size := ⟨_, rfl⟩; replace q2 := hide q2; replace g3 := hide g3; clear N2; have N3 : Hid (W = W) := rfl)
              | (have t := N3; clear t; refine wpList_store_row rfl 33 _ _ rfl w3.heap.size (stC s2 cb cd tb td kb kd) rfl rfl _ _ (World.alloc_heap_new w3 _) (step_size _ _ _ _ _ _ _) rfl (step_one _ _ _ _ _ _ _) ?_; rw [setRow_alloc, ← hW3, ← hP2]; clear N3; have T2 := two_of q1.out g2.out hW2.out hP1.out q2.out g3.out hW3 hP2; clear hW3 hP2 hW2 hP1 q1 q2 g2 g3; have y0 := st_at T2.b1 0 (.slice ca s1.req.cmds.length cc) rfl; have y5 := st_at T2.b1 5 (.bool s1.req.form.quiet) rfl; have y3 := (st_cells T2.b1).2.2.2.2; rw [HN.out] at y0; rw [HQ5.out] at y5; replace T2 := hide T2; have N4 : Hid (W = W) := rfl))
            go_ret
            exact ⟨by first | rfl | (simp; done), below_gr (gr_trans g1.out T2.out.gr)⟩
        · have e5 : (s1.e != 0) = false := by simpa using he
          obtain ⟨n, hnn⟩ : ∃ n, s1.req.cmds.length = n := ⟨_, rfl⟩
          have HN := hide hnn
          have hni : ((n : Int) != 1) = true := by rw [hnn] at hn; simpa using (fun h => hn (by omega))
          clear HQ he hn hnn
          go_wp2_with (first
            | (go_at_call 9; have t := N0; clear t; refine C1.out.mono ?_; rintro e w2 ⟨ca, cc, ta, tc, ka, kc, rfl, q1, g2⟩; obtain ⟨W2, hW2⟩ : ∃ W2, W2 = w2.alloc (.cells (stC s1 ca cc ta tc ka kc) 33) := ⟨_, rfl⟩; obtain ⟨P1, hP1⟩ : ∃ P1, P1 = w2.heap.size := ⟨_, rfl⟩; replace q1 := hide q1; replace g2 := hide g2; clear N0; have N1 : Hid (W = W) := rfl)
            | (have t := N1; clear t; refine wpList_store_row rfl 33 _ _ rfl w2.heap.size (stC s1 ca cc ta tc ka kc) rfl rfl _ _ (World.alloc_heap_new w2 _) (step_size _ _ _ _ _ _ _) rfl (step_one _ _ _ _ _ _ _) ?_; rw [setRow_alloc, ← hW2, ← hP1]; clear N1; replace hW2 := hide hW2; replace hP1 := hide hP1; obtain ⟨x2, v2, k2, C2⟩ := HT.out W2 (gr_trans g2.out (by rw [hW2.out]; exact World.grownBy_alloc _ _ _)); rw [HCAT.out, ← hs2.out] at C2; rw [HSZ.out] at k2 C2; replace C2 := hide C2; have N2 : Hid (W = W) := rfl)
            | (go_at_call 9; have t := N2; clear t; refine C2.out.mono ?_; rintro e w3 ⟨cb, cd, tb, td, kb, kd, rfl, q2, g3⟩; obtain ⟨W3, hW3⟩ : ∃ W3, W3 = w3.alloc (.cells (stC s2 cb cd tb td kb kd) 33) := ⟨_, rfl⟩; obtain ⟨P2, hP2⟩ : ∃ P2, P2 = w3.heap.size := ⟨_, rfl⟩; replace q2 := hide q2; replace g3 := hide g3; clear N2; have N3 : Hid (W = W) := rfl)
            | (have t := N3; clear t; refine wpList_store_row rfl 33 _ _ rfl w3.heap.size (stC s2 cb cd tb td kb kd) rfl rfl _ _ (World.alloc_heap_new w3 _) (step_size _ _ _ _ _ _ _) rfl (step_one _ _ _ _ _ _ _) ?_; rw [setRow_alloc, ← hW3, ← hP2]; clear N3; have T2 := two_of q1.out g2.out hW2.out hP1.out q2.out g3.out hW3 hP2; clear hW3 hP2 hW2 hP1 q1 q2 g2 g3; have y0 := st_at T2.b1 0 (.slice ca s1.req.cmds.length cc) rfl; have y5 := st_at T2.b1 5 (.bool s1.req.form.quiet) rfl; have y3 := (st_cells T2.b1).2.2.2.2; rw [HN.out] at y0; replace T2 := hide T2; have N4 : Hid (W = W) := rfl))
          go_ret
          exact ⟨by first | rfl | (simp; done), below_gr (gr_trans g1.out T2.out.gr)⟩
      · have e5 : (s1.e != 0) = true := by simpa using he
        clear HQ he
        go_wp2_with (first
          | (go_at_call 9; have t := N0; clear t; refine C1.out.mono ?_; rintro e w2 ⟨ca, cc, ta, tc, ka, kc, rfl, q1, g2⟩; obtain ⟨W2, hW2⟩ : ∃ W2, W2 = w2.alloc (.cells (stC s1 ca cc ta tc ka kc) 33) := ⟨_, rfl⟩; obtain ⟨P1, hP1⟩ : ∃ P1, P1 = w2.heap.size := ⟨_, rfl⟩; replace q1 := hide q1; replace g2 := hide g2; clear N0; have N1 : Hid (W = W) := rfl)
          | (have t := N1; clear t; refine wpList_store_row rfl 33 _ _ rfl w2.heap.size (stC s1 ca cc ta tc ka kc) rfl rfl _ _ (World.alloc_heap_new w2 _) (step_size _ _ _ _ _ _ _) rfl (step_one _ _ _ _ _ _ _) ?_; rw [setRow_alloc, ← hW2, ← hP1]; clear N1; replace hW2 := hide hW2; replace hP1 := hide hP1; obtain ⟨x2, v2, k2, C2⟩ := HT.out W2 (gr_trans g2.out (by rw [hW2.out]; exact World.grownBy_alloc _ _ _)); rw [HCAT.out, ← hs2.out] at C2; rw [HSZ.out] at k2 C2; replace C2 := hide C2; have N2 : Hid (W = W) := rfl)
          | (go_at_call 9; have t := N2; clear t; refine C2.out.mono ?_; rintro e w3 ⟨cb, cd, tb, td, kb, kd, rfl, q2, g3⟩; obtain ⟨W3, hW3⟩ : ∃ W3, W3 = w3.alloc (.cells (stC s2 cb cd tb td kb kd) 33) := ⟨_, rfl⟩; obtain ⟨P2, hP2⟩ : ∃ P2, P2 = w3.heap.size := ⟨_, rfl⟩; replace q2 := hide q2; replace g3 := hide g3; clear N2; have N3 : Hid (W = W) := rfl)
          | (have t := N3; clear t; refine wpList_store_row rfl 33 _ _ rfl w3.heap.size (stC s2 cb cd tb td kb kd) rfl rfl _ _ (World.alloc_heap_new w3 _) (step_size _ _ _ _ _ _ _) rfl (step_one _ _ _ _ _ _ _) ?_; rw [setRow_alloc, ← hW3, ← hP2]; clear N3; have T2 := two_of q1.out g2.out hW2.out hP1.out q2.out g3.out hW3 hP2; clear hW3 hP2 hW2 hP1 q1 q2 g2 g3; have y0 := st_at T2.b1 0 (.slice ca s1.req.cmds.length cc) rfl; have y5 := st_at T2.b1 5 (.bool s1.req.form.quiet) rfl; have y3 := (st_cells T2.b1).2.2.2.2; replace T2 := hide T2; have N4 : Hid (W = W) := rfl))
        go_ret
        exact ⟨by first | rfl | (simp; done), below_gr (gr_trans g1.out T2.out.gr)⟩
set_option maxRecDepth 100000 in
set_option maxHeartbeats 1000000 in
theorem textinQuiet_walk (s : ByteArray) (hs : s.size ≤ 140737488351232) (W : World) (hL : Laid W) : Calls Tryd.prog 5 #[.string s] W fun e W' => e = .returned (.bool true) ∧ Below W.heap.size W W' := by
  by_cases h : s.size ≤ 500
  · exact quiet_in hL s h
  · have hsi : (500 : Int) < (s.size : Int) := by omega
    go_enter Tryd.func5, Tryd.ntmps5
    go_wp2_with (go_at_call 8; refine (awake_any hL).mono ?_; rintro e w1 ⟨rfl, g1⟩; replace g1 := hide g1)
    go_ret
    exact ⟨rfl, below_gr g1.out⟩
end
end Go.Proofs.YthofdmepofepgaaDoor
