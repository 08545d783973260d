/- TextoutSilent returns true for every request and all results, and writes nothing that was there. Conditions: the listed variables hold what the program's text lays. -/
import Derived.Test.YtnkfpiccfmdllaaDoorOutAw
import Derived.Test.YtnkfpiccfmdllaaDoorOutFew
namespace Go.Proofs.YtnkfpiccfmdllaaDoor
set_option linter.unusedVariables false
open Go.RowKit Go.Shelf

theorem keep_cell {w w' : World} {p : Addr} {v : Value} (hg : w.grownBy w' none) (h : w.cell? p = some v) : w'.cell? p = some v := ((below_gr hg).cell (World.block_lt_of_cell? w _ h)).trans h
theorem end_facts {X Y : List UInt8} (hX : X = Y ++ endL) (h : 1 ≤ Y.length) (hl : X.length ≤ maxLen) : ∃ m : Nat, (2 : Int) < ((mkS X).size : Int) ∧ wrap64 (((mkS X).size : Int) - 2) = (m : Int) ∧ (m : Int) ≤ ((mkS X).size : Int) ∧ (((mkS X).extract m (mkS X).size).toList == [13, 10]) = true := by
  have hs : (mkS X).size = Y.length + 2 := by rw [mkS_size, hX, List.length_append]; rfl
  have hm : Y.length + 2 ≤ 9223372036854775807 := by rw [← hs, mkS_size]; exact hl
  refine ⟨Y.length, by rw [hs]; omega, by rw [hs]; unfold wrap64; omega, by rw [hs]; omega, ?_⟩
  rw [hs, Lib.toList_data, ByteArray.data_extract, beq_iff_eq, Array.toList_extract, mkS_list, hX, List.extract_eq_take_drop]
  simp [endL]
theorem empty_fact {X : List UInt8} (h : X = []) : (mkS X).toList.isEmpty = true := by rw [h]; exact mkS_empty []
section
variable {W : World} {r : Qv} {xs : List Rv} {ca ta ka la : Option Addr} {cc tc kc lc : Nat}
set_option maxRecDepth 100000 in
set_option maxHeartbeats 4000000 in
theorem textoutSilent_walk (W : World) (r : Qv) (ca : Option Addr) (cc : Nat) (ta : Option Addr) (tc : Nat) (ka : Option Addr) (kc : Nat) (hq : QAt W r ca cc ta tc ka kc) (la : Option Addr) (lc : Nat) (xs : List Rv) (hx : Ru W la xs.length lc xs) (hL : Laid W) :
    Calls Tryd.prog 3 #[.agg (rqC r ca cc ta tc ka kc), .slice la xs.length lc] W fun e W' => e = .returned (.bool true) ∧ Below W.heap.size W W' := by
  have B := QBox.new W r ca ta ka cc tc kc
  obtain ⟨V, hV⟩ : ∃ V, V = W.alloc (.cells (rqC r ca cc ta tc ka kc) 28) := ⟨_, rfl⟩
  obtain ⟨q, hqq⟩ : ∃ q, q = W.heap.size := ⟨_, rfl⟩
  rw [← hV, ← hqq] at B
  have HB := hide B
  have HR : Hid (rqC r ca cc ta tc ka kc = #[.slice ca r.cmds.length cc, .int .i64 r.form.dia, .string r.form.verb, .int .i64 r.form.code, .int .u32 r.form.opq, .bool r.form.quiet, .bool r.form.wcas, .string r.form.flags, .slice ta r.form.toks.length tc, .slice ka r.form.keys.length kc, .bool r.form.b64]) := rfl
  rw [HR.out] at hV
  rw [HR.out]
  go_enter Tryd.func3, Tryd.ntmps3
  go_upto_region 1 with fail
  rw [← hV, ← hqq]
  clear hV hqq B
  go_upto_region 3 with (first
    | (go_at_call 7; refine (awake_any (hL.up HB.out.gr)).mono ?_; rintro e w2 ⟨rfl, g2⟩; have B2 := hide (HB.out.on g2); clear g2)
    | (refine wpList_load_row rfl 28 _ rfl q rfl _ _ _ _ B2.out.row Tryd.underlying28 rfl (req_size _ _ _ _ _ _ _) ?_)
    | (go_at_call 8; refine (few_any (hq.on (below_gr B2.out.gr)) (hx.on (below_gr B2.out.gr))).mono ?_; rintro e w3 ⟨ok, rfl, hok, g3⟩; have B3 := hide (B2.out.on g3); clear g3))
  cases ok with
  | false =>
    go_wp2
    go_ret
    exact ⟨rfl, below_gr B3.out.gr⟩
  | true =>
    have hf := hok rfl
    clear hok B2 HB
    obtain ⟨c0, c4, -, -, -⟩ := B3.out.cells
    by_cases hN : r.cmds.length = 0
    · have n0 : ((r.cmds.length : Int) == 0) = true := by rw [hN]; rfl
      clear hN
      go_wp2
      go_ret
      exact ⟨rfl, below_gr B3.out.gr⟩
    have n0 : ((r.cmds.length : Int) == 0) = false := by rw [beq_eq_false_iff_ne]; omega
    by_cases hM : xs.length = r.cmds.length
    · have nM : ((xs.length : Int) == (r.cmds.length : Int)) = true := by rw [hM]; simp
      have h1 : 0 < r.cmds.length := by omega
      have h2 : 0 < xs.length := by omega
      have h1i : (0 : Int) < (r.cmds.length : Int) := by omega
      have h2i : (0 : Int) < (xs.length : Int) := by omega
      have HQ3 := hq.on (below_gr B3.out.gr)
      have HX3 := hx.on (below_gr B3.out.gr)
      have HE := hide (encode_any (hL.up B3.out.gr) HQ3 HX3 hf)
      obtain ⟨X, hX⟩ : ∃ X, X = encL r xs := ⟨_, rfl⟩
      rw [← hX] at HE
      rw [encL_cons h1 h2] at hX
      obtain ⟨cb, co, rfl, k3⟩ := first_cell HQ3.cmds h1
      obtain ⟨lb, lo, rfl, hlb, va, vc, hr, hbu⟩ := HX3.get h2
      rw [Nat.zero_mul, Nat.add_zero] at hr
      have s3 : w3.cell? ⟨lb, lo, none⟩ = some (.int .i64 (xs[0]).s) := hr 0 _ rfl
      have hxo := hx.ok _ (List.getElem_mem h2)
      replace hX := hide hX
      generalize hcc : r.cmds[0] = c at *
      generalize hxx : xs[0] = x at *
      clear hcc hxx hr hbu hlb HQ3 HX3 hq hx hM hN h1 h2 hf
      by_cases o0 : c.op = 0 ∨ c.op = 1
      · have HY : Hid (X = (hitsL r.cmds xs r.form.wcas ++ tailL) ++ endL ∧ 1 ≤ (hitsL r.cmds xs r.form.wcas ++ tailL).length) := by
          have := hX.out
          rw [if_pos o0] at this
          exact ⟨by rw [this, List.append_assoc], by rw [List.length_append]; show 1 ≤ _ + 3; omega⟩
        generalize (hitsL r.cmds xs r.form.wcas ++ tailL) = Y at HY
        cases hqt : r.form.quiet
        all_goals
          rw [hqt] at c4
          rcases o0 with o | o
          · have z0 : (c.op == 0) = true := by rw [o]; rfl
            have z16 : (c.op == 16) = false := by rw [o]; rfl
            clear o
            clear hX hxo
            go_wp2_with (first
              | (refine wpList_load_row rfl 28 _ rfl q rfl _ _ _ _ B3.out.row Tryd.underlying28 rfl (req_size _ _ _ _ _ _ _) ?_)
              | (go_at_call 9; refine Calls.mono HE.out ?_; rintro e w5 h5; obtain ⟨a5, c5, rfl, b5, g5⟩ := h5.open; have hc5 := conv_bu b5; have B5 := B3.out.on g5; obtain ⟨d0, d4, -, -, -⟩ := B5.cells; rw [hqt] at d4; have k5 := keep_cell g5 k3; have s5 := keep_cell g5 s3; have HG := hide B5.gr; obtain ⟨m, e1, e2, e3, e4⟩ := end_facts HY.out.1 HY.out.2 (Nat.le_trans b5.c b5.m); clear B5 b5 h5 c0 c4 k3 s3 g5))
            go_ret
            exact ⟨by first | rfl | (simp; done), below_gr HG.out⟩
          · have z0 : (c.op == 0) = false := by rw [o]; rfl
            have z1 : (c.op == 1) = true := by rw [o]; rfl
            have z16 : (c.op == 16) = false := by rw [o]; rfl
            clear o
            clear hX hxo
            go_wp2_with (first
              | (refine wpList_load_row rfl 28 _ rfl q rfl _ _ _ _ B3.out.row Tryd.underlying28 rfl (req_size _ _ _ _ _ _ _) ?_)
              | (go_at_call 9; refine Calls.mono HE.out ?_; rintro e w5 h5; obtain ⟨a5, c5, rfl, b5, g5⟩ := h5.open; have hc5 := conv_bu b5; have B5 := B3.out.on g5; obtain ⟨d0, d4, -, -, -⟩ := B5.cells; rw [hqt] at d4; have k5 := keep_cell g5 k3; have s5 := keep_cell g5 s3; have HG := hide B5.gr; obtain ⟨m, e1, e2, e3, e4⟩ := end_facts HY.out.1 HY.out.2 (Nat.le_trans b5.c b5.m); clear B5 b5 h5 c0 c4 k3 s3 g5))
            go_ret
            exact ⟨by first | rfl | (simp; done), below_gr HG.out⟩
      · have z0 : (c.op == 0) = false := by rw [beq_eq_false_iff_ne]; exact fun e => o0 (.inl e)
        have z1 : (c.op == 1) = false := by rw [beq_eq_false_iff_ne]; exact fun e => o0 (.inr e)
        have hX1 := hX.out
        rw [if_neg o0] at hX1
        clear o0
        by_cases o16 : c.op = 16
        · rw [if_pos o16] at hX1
          have HY := hide hX1
          have z16 : (c.op == 16) = true := by rw [o16]; rfl
          clear o16 hX1
          cases hqt : r.form.quiet
          all_goals
            rw [hqt] at c4
            clear hX hxo
            go_wp2_with (first
              | (refine wpList_load_row rfl 28 _ rfl q rfl _ _ _ _ B3.out.row Tryd.underlying28 rfl (req_size _ _ _ _ _ _ _) ?_)
              | (go_at_call 9; refine Calls.mono HE.out ?_; rintro e w5 h5; obtain ⟨a5, c5, rfl, b5, g5⟩ := h5.open; have hc5 := conv_bu b5; have B5 := B3.out.on g5; obtain ⟨d0, d4, -, -, -⟩ := B5.cells; rw [hqt] at d4; have k5 := keep_cell g5 k3; have s5 := keep_cell g5 s3; have HG := hide B5.gr; have ee := empty_fact HY.out; clear B5 b5 h5 c0 c4 k3 s3 g5))
            go_ret
            exact ⟨by first | rfl | (simp; done), below_gr HG.out⟩
        · rw [if_neg o16] at hX1
          have z16 : (c.op == 16) = false := by rw [beq_eq_false_iff_ne]; exact o16
          clear o16
          cases hqt : r.form.quiet with
          | true =>
            rw [if_pos hqt] at hX1
            have HY := hide hX1
            rw [hqt] at c4
            clear hX1
            clear hX hxo
            go_wp2_with (first
              | (refine wpList_load_row rfl 28 _ rfl q rfl _ _ _ _ B3.out.row Tryd.underlying28 rfl (req_size _ _ _ _ _ _ _) ?_)
              | (go_at_call 9; refine Calls.mono HE.out ?_; rintro e w5 h5; obtain ⟨a5, c5, rfl, b5, g5⟩ := h5.open; have hc5 := conv_bu b5; have B5 := B3.out.on g5; obtain ⟨d0, d4, -, -, -⟩ := B5.cells; rw [hqt] at d4; have k5 := keep_cell g5 k3; have s5 := keep_cell g5 s3; have HG := hide B5.gr; have ee := empty_fact HY.out; clear B5 b5 h5 c0 c4 k3 s3 g5))
            go_ret
            exact ⟨by first | rfl | (simp; done), below_gr HG.out⟩
          | false =>
            rw [if_neg (by rw [hqt]; decide)] at hX1
            rw [hqt] at c4
            unfold outL at hX1
            by_cases s7 : x.s = 7
            · rw [if_pos s7] at hX1
              have HY : Hid (X = showL x.num ++ endL ∧ 1 ≤ (showL x.num).length) := ⟨hX1, (showL_len hxo.n0 hxo.n1).2⟩
              have z7 : (x.s == 7) = true := by rw [s7]; rfl
              clear s7 hX1
              clear hX hxo
              go_wp2_with (first
                | (refine wpList_load_row rfl 28 _ rfl q rfl _ _ _ _ B3.out.row Tryd.underlying28 rfl (req_size _ _ _ _ _ _ _) ?_)
                | (go_at_call 9; refine Calls.mono HE.out ?_; rintro e w5 h5; obtain ⟨a5, c5, rfl, b5, g5⟩ := h5.open; have hc5 := conv_bu b5; have B5 := B3.out.on g5; obtain ⟨d0, d4, -, -, -⟩ := B5.cells; rw [hqt] at d4; have k5 := keep_cell g5 k3; have s5 := keep_cell g5 s3; have HG := hide B5.gr; obtain ⟨m, e1, e2, e3, e4⟩ := end_facts HY.out.1 HY.out.2 (Nat.le_trans b5.c b5.m); clear B5 b5 h5 c0 c4 k3 s3 g5))
              go_ret
              exact ⟨by first | rfl | (simp; done), below_gr HG.out⟩
            · rw [if_neg s7] at hX1
              have z7 : (x.s == 7) = false := by rw [beq_eq_false_iff_ne]; exact s7
              by_cases sl : x.s < 1
              · have HY : Hid (X = []) := by rw [hX1, wordL_none (.inl sl), if_pos rfl]; exact rfl
                have i1 : ¬ (1 : Int) ≤ x.s := by omega
                clear s7 hX1 sl
                clear hX hxo
                go_wp2_with (first
                  | (refine wpList_load_row rfl 28 _ rfl q rfl _ _ _ _ B3.out.row Tryd.underlying28 rfl (req_size _ _ _ _ _ _ _) ?_)
                  | (go_at_call 9; refine Calls.mono HE.out ?_; rintro e w5 h5; obtain ⟨a5, c5, rfl, b5, g5⟩ := h5.open; have hc5 := conv_bu b5; have B5 := B3.out.on g5; obtain ⟨d0, d4, -, -, -⟩ := B5.cells; rw [hqt] at d4; have k5 := keep_cell g5 k3; have s5 := keep_cell g5 s3; have HG := hide B5.gr; have ee := empty_fact HY.out; clear B5 b5 h5 c0 c4 k3 s3 g5))
                go_ret
                exact ⟨by first | rfl | (simp; done), below_gr HG.out⟩
              · by_cases sg : 11 < x.s
                · have HY : Hid (X = []) := by rw [hX1, wordL_none (.inr (.inr sg)), if_pos rfl]; exact rfl
                  have i1 : (1 : Int) ≤ x.s := by omega
                  have i2 : decide (x.s ≤ (11 : Int)) = false := decide_eq_false (by omega)
                  clear s7 hX1 sl sg
                  clear hX hxo
                  go_wp2_with (first
                    | (refine wpList_load_row rfl 28 _ rfl q rfl _ _ _ _ B3.out.row Tryd.underlying28 rfl (req_size _ _ _ _ _ _ _) ?_)
                    | (go_at_call 9; refine Calls.mono HE.out ?_; rintro e w5 h5; obtain ⟨a5, c5, rfl, b5, g5⟩ := h5.open; have hc5 := conv_bu b5; have B5 := B3.out.on g5; obtain ⟨d0, d4, -, -, -⟩ := B5.cells; rw [hqt] at d4; have k5 := keep_cell g5 k3; have s5 := keep_cell g5 s3; have HG := hide B5.gr; have ee := empty_fact HY.out; clear B5 b5 h5 c0 c4 k3 s3 g5))
                  go_ret
                  exact ⟨by first | rfl | (simp; done), below_gr HG.out⟩
                · have hw := wordL_some (s := x.s) (by omega) (by omega) s7
                  have hw0 : wordL x.s ≠ [] := fun e => by rw [e] at hw; simp at hw
                  have HY : Hid (X = wordL x.s ++ endL ∧ 1 ≤ (wordL x.s).length) := by rw [if_neg hw0] at hX1; exact ⟨hX1, by omega⟩
                  have i1 : (1 : Int) ≤ x.s := by omega
                  have i2 : x.s ≤ (11 : Int) := by omega
                  clear s7 hX1 sl sg hw hw0
                  clear hX hxo
                  go_wp2_with (first
                    | (refine wpList_load_row rfl 28 _ rfl q rfl _ _ _ _ B3.out.row Tryd.underlying28 rfl (req_size _ _ _ _ _ _ _) ?_)
                    | (go_at_call 9; refine Calls.mono HE.out ?_; rintro e w5 h5; obtain ⟨a5, c5, rfl, b5, g5⟩ := h5.open; have hc5 := conv_bu b5; have B5 := B3.out.on g5; obtain ⟨d0, d4, -, -, -⟩ := B5.cells; rw [hqt] at d4; have k5 := keep_cell g5 k3; have s5 := keep_cell g5 s3; have HG := hide B5.gr; obtain ⟨m, e1, e2, e3, e4⟩ := end_facts HY.out.1 HY.out.2 (Nat.le_trans b5.c b5.m); clear B5 b5 h5 c0 c4 k3 s3 g5))
                  go_ret
                  exact ⟨by first | rfl | (simp; done), below_gr HG.out⟩
    · have nM : ((xs.length : Int) == (r.cmds.length : Int)) = false := by rw [beq_eq_false_iff_ne]; omega
      clear hM hN
      go_wp2
      go_ret
      exact ⟨rfl, below_gr B3.out.gr⟩
end
end Go.Proofs.YtnkfpiccfmdllaaDoor
