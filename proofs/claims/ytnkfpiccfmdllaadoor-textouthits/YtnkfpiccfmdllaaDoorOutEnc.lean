/- What a request is answered. Conditions: at most 40 commands and results, keys of at most 1000 bytes, values of at most 2000; the listed variables hold what the program's text lays. -/
import Derived.Test.YtnkfpiccfmdllaaDoorOutHits
namespace Go.Proofs.YtnkfpiccfmdllaaDoor
set_option linter.unusedVariables false
open Go.RowKit Go.Shelf

/-- A request and results within the bounds. -/
structure FewR (r : Qv) (xs : List Rv) : Prop where
  n : r.cmds.length ≤ 40
  m : xs.length ≤ 40
  k : ∀ c ∈ r.cmds, c.key.size ≤ 1000
  v : ∀ x ∈ xs, x.val.length ≤ 2000
/-- The box of a request. -/
structure QBox (w W : World) (q : Nat) (r : Qv) (ca : Option Addr) (cc : Nat) (ta : Option Addr) (tc : Nat) (ka : Option Addr) (kc : Nat) : Prop where
  gr : w.grownBy W none
  lt : q < W.heap.size
  row : W.heap[q]? = some (.cells (rqC r ca cc ta tc ka kc) 28 (0, 0))
section
variable {w W W' : World} {q : Nat} {r : Qv} {ca ta ka : Option Addr} {cc tc kc : Nat}
theorem QBox.new (w : World) (r : Qv) (ca ta ka : Option Addr) (cc tc kc : Nat) : QBox w (w.alloc (.cells (rqC r ca cc ta tc ka kc) 28)) w.heap.size r ca cc ta tc ka kc :=
  ⟨World.grownBy_alloc _ _ _, by rw [World.size_alloc]; omega, World.alloc_heap_new w _⟩
theorem QBox.on (h : QBox w W q r ca cc ta tc ka kc) (hg : W.grownBy W' none) : QBox w W' q r ca cc ta tc ka kc := ⟨gr_trans h.gr hg, Nat.lt_of_lt_of_le h.lt hg.size, (hg.block q h.lt (by simp)).trans h.row⟩
theorem QBox.cells (h : QBox w W q r ca cc ta tc ka kc) : W.cell? ⟨q, 0, none⟩ = some (.slice ca r.cmds.length cc) ∧ W.cell? ⟨q, 1 + 4, none⟩ = some (.bool r.form.quiet) ∧ W.cell? ⟨q, 1 + 5, none⟩ = some (.bool r.form.wcas) ∧ W.cell? ⟨q, 1 + 6, none⟩ = some (.string r.form.flags) ∧ W.cell? ⟨q, 1 + 7, none⟩ = some (.slice ta r.form.toks.length tc) := by
  simp [World.cell?, h.row, rqC]
end
section
variable {w : World} {r : Qv} {xs : List Rv} {ca ta ka la : Option Addr} {cc tc kc lc : Nat}
theorem own_down {n0 n1 n : Nat} {e : TypeId} {w : World} {v : Value} {xs : List Value} (h : w.ownsRow n0 e 1 v n xs) (hn : n1 ≤ n0) : w.ownsRow n1 e 1 v n xs := ⟨h.1, h.2.imp id fun ⟨g, cp, cur, a1, a2, a3⟩ => ⟨g, cp, cur, a1, Nat.le_trans hn a2, a3⟩⟩
theorem encL_nil (h : min r.cmds.length xs.length = 0) : encL r xs = [] := by
  unfold encL
  match hc : r.cmds, xs, h with
  | [], _, _ => rfl
  | _ :: _, [], _ => rfl
  | c :: cs, x :: xs, h => simp only [List.length_cons] at h; omega
theorem encL_cons (h1 : 0 < r.cmds.length) (h2 : 0 < xs.length) : encL r xs = if (r.cmds[0]).op = 0 ∨ (r.cmds[0]).op = 1 then hitsL r.cmds xs r.form.wcas ++ (tailL ++ endL) else if (r.cmds[0]).op = 16 then [] else if r.form.quiet then [] else outL xs[0] := by
  unfold encL
  match hc : r.cmds, xs, h1, h2 with
  | c :: cs, x :: xs, _, _ => simp only [List.getElem_cons_zero]
set_option maxRecDepth 100000 in
set_option maxHeartbeats 4000000 in
theorem enc_none (h : min r.cmds.length xs.length = 0) : Calls Tryd.prog 9 #[.agg (rqC r ca cc ta tc ka kc), .slice la xs.length lc] w fun e w' => Ans w (encL r xs) e w' := by
  rw [encL_nil h]
  obtain ⟨n, hn⟩ : ∃ n, n = min r.cmds.length xs.length := ⟨_, rfl⟩
  have B := QBox.new w r ca ta ka cc tc kc
  obtain ⟨c0, c4, c5, -, -⟩ := B.cells
  have hmin : min (r.cmds.length : Int) (xs.length : Int) = (n : Int) := by omega
  obtain ⟨W, hW⟩ : ∃ W, W = w.alloc (.cells (rqC r ca cc ta tc ka kc) 28) := ⟨_, rfl⟩
  obtain ⟨q, hq⟩ : ∃ q, q = w.heap.size := ⟨_, rfl⟩
  rw [← hW, ← hq] at B c0 c4 c5
  simp only [rqC] at hW ⊢
  obtain rfl : n = 0 := by omega
  have H0 := hide B.gr
  have e00 : (((0 : Nat) : Int) == 0) = true := rfl
  clear hn h B c4 c5
  go_enter Tryd.func9, Tryd.ntmps9
  go_upto_region 1 with fail
  rw [← hW, ← hq]
  go_wp2
  go_ret
  exact Ans.none_ (World.grownBy_alloc _ _ none)
/-- The first command, in memory. -/
theorem first_cell {W : World} {len cap : Nat} {cs : List Cv} (hc : Cu W ca len cap cs) (h0 : 0 < len) : ∃ b off, ca = some ⟨b, off, none⟩ ∧ W.cell? ⟨b, off, none⟩ = some (.int .i64 (cs[0]'(by rw [hc.n]; exact h0)).op) := by
  obtain ⟨b, off, e, va, vc, hr, _⟩ := hc.get h0
  refine ⟨b, off, e, ?_⟩
  have := op_cell hr
  rwa [Nat.zero_mul, Nat.add_zero] at this
set_option maxRecDepth 100000 in
set_option maxHeartbeats 4000000 in
theorem enc_hits (hL : Laid w) (hq : QAt w r ca cc ta tc ka kc) (hx : Ru w la xs.length lc xs) (hf : FewR r xs) (h1 : 0 < r.cmds.length) (h2 : 0 < xs.length) (hop : (r.cmds[0]).op = 0 ∨ (r.cmds[0]).op = 1) : Calls Tryd.prog 9 #[.agg (rqC r ca cc ta tc ka kc), .slice la xs.length lc] w fun e w' => Ans w (encL r xs) e w' := by
  rw [encL_cons h1 h2]
  obtain ⟨n, hn⟩ : ∃ n, n = min r.cmds.length xs.length := ⟨_, rfl⟩
  have B := QBox.new w r ca ta ka cc tc kc
  obtain ⟨c0, c4, c5, -, -⟩ := B.cells
  have hmin : min (r.cmds.length : Int) (xs.length : Int) = (n : Int) := by omega
  obtain ⟨W, hW⟩ : ∃ W, W = w.alloc (.cells (rqC r ca cc ta tc ka kc) 28) := ⟨_, rfl⟩
  obtain ⟨q, hqq⟩ : ∃ q, q = w.heap.size := ⟨_, rfl⟩
  rw [← hW, ← hqq] at B c0 c4 c5
  simp only [rqC] at hW ⊢
  have en0 : ((n : Int) == 0) = false := by rw [beq_eq_false_iff_ne]; omega
  obtain ⟨cb, co, e, k0⟩ := first_cell (hq.cmds.on (below_gr B.gr)) h1
  rw [if_pos hop]
  have HB := hide B
  have HCU := hide ((hq.cmds.on (below_gr B.gr)).front (j := n) (by omega))
  have HRU := hide ((hx.on (below_gr B.gr)).front (j := n) (by omega))
  have HLD := hide (hL.up B.gr)
  have HT := hide (hitsL_take r.form.wcas r.cmds xs n (by omega))
  have hcap := hq.cmds.c
  have hcap2 := hx.c
  have hni : (n : Int) ≤ (cc : Int) := by omega
  have hnj : (n : Int) ≤ (lc : Int) := by omega
  have hn40 := hf.n
  have hn4 : n ≤ 40 := by omega
  generalize r.cmds[0] = c at *
  subst e
  have HK := hide hf.k
  have HV := hide hf.v
  clear hq hx hL hf hcap hcap2 hn40 hn
  rcases hop with h | h
  · have hc0 : (c.op == 0) = true := by rw [h]; rfl
    clear h
    go_enter Tryd.func9, Tryd.ntmps9
    go_upto_region 1 with fail
    rw [← hW, ← hqq]
    clear hW hqq
    go_upto_region 7 with fail
    refine region_dtail 10 (by kernel_rfl) (by simp) (by kernel_rfl) ?_
    simp only [List.take_succ_cons, List.take_zero, List.drop_succ_cons, List.drop_zero]
    repeat (quiet_step (fail))
    refine wpQuiet_nil ?_
    intro _ hw'
    obtain ⟨nq, rfl⟩ := hw'
    have g2 : W.grownBy (W.drewN nq) none := ⟨rfl, rfl, rfl, Nat.le_refl _, fun _ _ _ => rfl⟩
    clear c0 c4 c5 k0
    generalize W.drewN nq = W2 at *
    go_wp2_with (go_at_call 13; refine (hits_any (HLD.out.up g2) (HCU.out.on (below_gr g2)) (HRU.out.on (below_gr g2)) hn4 (fun c h => HK.out c (List.mem_of_mem_take h)) (fun x h => HV.out x (List.mem_of_mem_take h))).mono ?_; rintro e w3 ⟨v3, rfl, o3, g3⟩; replace o3 := hide o3; replace g3 := hide g3)
    go_ret
    have o := o3.out
    rw [HT.out] at o
    exact ⟨v3, rfl, own_down o (gr_trans HB.out.gr g2).size, gr_trans HB.out.gr (gr_trans g2 g3.out)⟩
  · have hc0 : (c.op == 0) = false := by rw [h]; rfl
    have hc1 : (c.op == 1) = true := by rw [h]; rfl
    clear h
    go_enter Tryd.func9, Tryd.ntmps9
    go_upto_region 1 with fail
    rw [← hW, ← hqq]
    clear hW hqq
    go_upto_region 7 with fail
    refine region_dtail 10 (by kernel_rfl) (by simp) (by kernel_rfl) ?_
    simp only [List.take_succ_cons, List.take_zero, List.drop_succ_cons, List.drop_zero]
    repeat (quiet_step (fail))
    refine wpQuiet_nil ?_
    intro _ hw'
    obtain ⟨nq, rfl⟩ := hw'
    have g2 : W.grownBy (W.drewN nq) none := ⟨rfl, rfl, rfl, Nat.le_refl _, fun _ _ _ => rfl⟩
    clear c0 c4 c5 k0
    generalize W.drewN nq = W2 at *
    go_wp2_with (go_at_call 13; refine (hits_any (HLD.out.up g2) (HCU.out.on (below_gr g2)) (HRU.out.on (below_gr g2)) hn4 (fun c h => HK.out c (List.mem_of_mem_take h)) (fun x h => HV.out x (List.mem_of_mem_take h))).mono ?_; rintro e w3 ⟨v3, rfl, o3, g3⟩; replace o3 := hide o3; replace g3 := hide g3)
    go_ret
    have o := o3.out
    rw [HT.out] at o
    exact ⟨v3, rfl, own_down o (gr_trans HB.out.gr g2).size, gr_trans HB.out.gr (gr_trans g2 g3.out)⟩
set_option maxRecDepth 100000 in
set_option maxHeartbeats 4000000 in
theorem enc_quit (hL : Laid w) (hq : QAt w r ca cc ta tc ka kc) (hx : Ru w la xs.length lc xs) (hf : FewR r xs) (h1 : 0 < r.cmds.length) (h2 : 0 < xs.length) (hop : (r.cmds[0]).op ≠ 0 ∧ (r.cmds[0]).op ≠ 1) (h16 : (r.cmds[0]).op = 16) : Calls Tryd.prog 9 #[.agg (rqC r ca cc ta tc ka kc), .slice la xs.length lc] w fun e w' => Ans w (encL r xs) e w' := by
  rw [encL_cons h1 h2]
  obtain ⟨n, hn⟩ : ∃ n, n = min r.cmds.length xs.length := ⟨_, rfl⟩
  have B := QBox.new w r ca ta ka cc tc kc
  obtain ⟨c0, c4, c5, -, -⟩ := B.cells
  have hmin : min (r.cmds.length : Int) (xs.length : Int) = (n : Int) := by omega
  obtain ⟨W, hW⟩ : ∃ W, W = w.alloc (.cells (rqC r ca cc ta tc ka kc) 28) := ⟨_, rfl⟩
  obtain ⟨q, hqq⟩ : ∃ q, q = w.heap.size := ⟨_, rfl⟩
  rw [← hW, ← hqq] at B c0 c4 c5
  simp only [rqC] at hW ⊢
  have en0 : ((n : Int) == 0) = false := by rw [beq_eq_false_iff_ne]; omega
  obtain ⟨cb, co, e, k0⟩ := first_cell (hq.cmds.on (below_gr B.gr)) h1
  rw [if_neg (by omega), if_pos h16]
  generalize r.cmds[0] = c at *
  subst e
  have q0 : (c.op == 0) = false := by rw [beq_eq_false_iff_ne]; exact hop.1
  have q1 : (c.op == 1) = false := by rw [beq_eq_false_iff_ne]; exact hop.2
  have H0 := hide B.gr
  have q16 : (c.op == 16) = true := by rw [h16]; rfl
  clear hq hx hL hf hn hop h16 B
  go_enter Tryd.func9, Tryd.ntmps9
  go_upto_region 1 with fail
  rw [← hW, ← hqq]
  clear hW hqq
  go_wp2
  go_ret
  exact Ans.none_ H0.out
set_option maxRecDepth 100000 in
set_option maxHeartbeats 4000000 in
theorem enc_quiet (hL : Laid w) (hq : QAt w r ca cc ta tc ka kc) (hx : Ru w la xs.length lc xs) (hf : FewR r xs) (h1 : 0 < r.cmds.length) (h2 : 0 < xs.length) (hop : (r.cmds[0]).op ≠ 0 ∧ (r.cmds[0]).op ≠ 1) (h16 : (r.cmds[0]).op ≠ 16) (hqt : r.form.quiet = true) : Calls Tryd.prog 9 #[.agg (rqC r ca cc ta tc ka kc), .slice la xs.length lc] w fun e w' => Ans w (encL r xs) e w' := by
  rw [encL_cons h1 h2]
  obtain ⟨n, hn⟩ : ∃ n, n = min r.cmds.length xs.length := ⟨_, rfl⟩
  have B := QBox.new w r ca ta ka cc tc kc
  obtain ⟨c0, c4, c5, -, -⟩ := B.cells
  have hmin : min (r.cmds.length : Int) (xs.length : Int) = (n : Int) := by omega
  obtain ⟨W, hW⟩ : ∃ W, W = w.alloc (.cells (rqC r ca cc ta tc ka kc) 28) := ⟨_, rfl⟩
  obtain ⟨q, hqq⟩ : ∃ q, q = w.heap.size := ⟨_, rfl⟩
  rw [← hW, ← hqq] at B c0 c4 c5
  simp only [rqC] at hW ⊢
  have en0 : ((n : Int) == 0) = false := by rw [beq_eq_false_iff_ne]; omega
  obtain ⟨cb, co, e, k0⟩ := first_cell (hq.cmds.on (below_gr B.gr)) h1
  rw [if_neg (by omega), if_neg h16, if_pos hqt]
  generalize r.cmds[0] = c at *
  subst e
  have q0 : (c.op == 0) = false := by rw [beq_eq_false_iff_ne]; exact hop.1
  have q1 : (c.op == 1) = false := by rw [beq_eq_false_iff_ne]; exact hop.2
  have H0 := hide B.gr
  have q16 : (c.op == 16) = false := by rw [beq_eq_false_iff_ne]; exact h16
  rw [hqt] at c4
  clear hq hx hL hf hn hop h16 B hqt
  go_enter Tryd.func9, Tryd.ntmps9
  go_upto_region 1 with fail
  rw [← hW, ← hqq]
  clear hW hqq
  go_wp2
  go_ret
  exact Ans.none_ H0.out
set_option maxRecDepth 100000 in
set_option maxHeartbeats 4000000 in
theorem enc_out (hL : Laid w) (hq : QAt w r ca cc ta tc ka kc) (hx : Ru w la xs.length lc xs) (hf : FewR r xs) (h1 : 0 < r.cmds.length) (h2 : 0 < xs.length) (hop : (r.cmds[0]).op ≠ 0 ∧ (r.cmds[0]).op ≠ 1) (h16 : (r.cmds[0]).op ≠ 16) (hqt : r.form.quiet = false) : Calls Tryd.prog 9 #[.agg (rqC r ca cc ta tc ka kc), .slice la xs.length lc] w fun e w' => Ans w (encL r xs) e w' := by
  rw [encL_cons h1 h2]
  obtain ⟨n, hn⟩ : ∃ n, n = min r.cmds.length xs.length := ⟨_, rfl⟩
  have B := QBox.new w r ca ta ka cc tc kc
  obtain ⟨c0, c4, c5, -, -⟩ := B.cells
  have hmin : min (r.cmds.length : Int) (xs.length : Int) = (n : Int) := by omega
  obtain ⟨W, hW⟩ : ∃ W, W = w.alloc (.cells (rqC r ca cc ta tc ka kc) 28) := ⟨_, rfl⟩
  obtain ⟨q, hqq⟩ : ∃ q, q = w.heap.size := ⟨_, rfl⟩
  rw [← hW, ← hqq] at B c0 c4 c5
  simp only [rqC] at hW ⊢
  have en0 : ((n : Int) == 0) = false := by rw [beq_eq_false_iff_ne]; omega
  obtain ⟨cb, co, e, k0⟩ := first_cell (hq.cmds.on (below_gr B.gr)) h1
  rw [if_neg (by omega), if_neg h16, if_neg (by rw [hqt]; decide)]
  generalize r.cmds[0] = c at *
  subst e
  have q0 : (c.op == 0) = false := by rw [beq_eq_false_iff_ne]; exact hop.1
  have q1 : (c.op == 1) = false := by rw [beq_eq_false_iff_ne]; exact hop.2
  have H0 := hide B.gr
  have q16 : (c.op == 16) = false := by rw [beq_eq_false_iff_ne]; exact h16
  rw [hqt] at c4
  obtain ⟨lb, lo, rfl, hlb, va, vc, hr, hbu⟩ := (hx.on (below_gr B.gr)).get h2
  have hxo := hx.ok _ (List.getElem_mem h2)
  have h2i : (0 : Int) < (xs.length : Int) := by omega
  rw [Nat.zero_mul, Nat.add_zero] at hr
  generalize xs[0] = x at *
  replace hr := hide hr
  have HLD := hide (hL.up B.gr)
  clear hq hx hL hf hn hop h16 B hbu hlb hqt
  go_enter Tryd.func9, Tryd.ntmps9
  go_upto_region 1 with fail
  rw [← hW, ← hqq]
  clear hW hqq
  go_wp2_with (first
    | (refine wpList_load_mid rfl 38 _ rfl lb lo rfl (rsC x va vc).toList _ hr.out Tryd.underlying38 rfl (by rw [res_size x va vc, Array.length_toList]) ?_)
    | (go_at_call 14; refine (outcome_any HLD.out hxo).mono ?_; rintro e w3 ⟨v3, rfl, o3, g3⟩; replace o3 := hide o3; replace g3 := hide g3))
  go_ret
  exact ⟨v3, rfl, own_down o3.out H0.out.size, gr_trans H0.out g3.out⟩
/-- Any request, with any results. -/
theorem encode_any (hL : Laid w) (hq : QAt w r ca cc ta tc ka kc) (hx : Ru w la xs.length lc xs) (hf : FewR r xs) : Calls Tryd.prog 9 #[.agg (rqC r ca cc ta tc ka kc), .slice la xs.length lc] w fun e w' => Ans w (encL r xs) e w' := by
  by_cases h0 : min r.cmds.length xs.length = 0
  · exact enc_none h0
  · have h1 : 0 < r.cmds.length := by omega
    have h2 : 0 < xs.length := by omega
    by_cases hop : (r.cmds[0]).op = 0 ∨ (r.cmds[0]).op = 1
    · exact enc_hits hL hq hx hf h1 h2 hop
    · have hop' : (r.cmds[0]).op ≠ 0 ∧ (r.cmds[0]).op ≠ 1 := ⟨fun e => hop (.inl e), fun e => hop (.inr e)⟩
      by_cases h16 : (r.cmds[0]).op = 16
      · exact enc_quit hL hq hx hf h1 h2 hop' h16
      · cases hqt : r.form.quiet with
        | true => exact enc_quiet hL hq hx hf h1 h2 hop' h16 hqt
        | false => exact enc_out hL hq hx hf h1 h2 hop' h16 hqt
end
end Go.Proofs.YtnkfpiccfmdllaaDoor
