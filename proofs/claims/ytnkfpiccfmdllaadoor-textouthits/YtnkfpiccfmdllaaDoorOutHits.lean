/- What those keys have that have anything, told. Conditions: at most 40 commands and results, keys of at most 1000 bytes, values of at most 2000; the listed variables hold what the program's text lays. -/
import Derived.Test.YtnkfpiccfmdllaaDoorOutHead
import Derived.Test.YtnkfpiccfmdllaaDoorSetRow
import Derived.Deep.Cut
namespace Go.Proofs.YtnkfpiccfmdllaaDoor
set_option linter.unusedVariables false
open Go.RowKit Go.Shelf

theorem run_load_row {P : Program} {o : Oper} {a : Act} {w : World} (ty : TypeId) (x : Operand) (ho : o.op = .load ty x) (g : Nat) (hx : a.eval x = .pointer (some ⟨g, 0, none⟩)) {t : TypeId} {cs : Array Value} {fr : Nat × Nat} {d : TypeDesc} (hg : w.heap[g]? = some (.cells cs t fr))
    (hu : P.underlying ty = some d) (hd : (match d with | .struct _ | .array _ _ => true | _ => false) = true) (hi : (P.info? ty).map (·.size) = some cs.size) : (execOp a.eval o).run P w = .ok (.value (.agg cs)) w := by
  unfold execOp
  simp only [ho, hx, Instr.loadAt, Instr.sureAddr, Sem.run_bind, Sem.run_pure, Result.andThen_ok, run_loadVar_row w g t ty cs fr d hg hu hd hi]
/-- What is told already: a row of one's own. -/
structure TellI (w W : World) (v : Value) (l : List UInt8) : Prop where
  own : W.ownsRow w.heap.size 5 1 v l.length (byU l)
  gr : w.grownBy W none
theorem TellI.on {w W W' : World} {v : Value} {l : List UInt8} (h : TellI w W v l) (hg : W.grownBy W' none) : TellI w W' v l := ⟨own_up h.own hg, gr_trans h.gr hg⟩
theorem TellI.apart {w W : World} {v : Value} {l : List UInt8} (h : TellI w W v l) {p : Nat} (hp : W.heap.size ≤ p) : v.ownBlock ≠ some p := fun e => by have := (own_at h.own e).2.1; omega
/-- A line was told. -/
structure TellE (w W : World) (v : Value) (l : List UInt8) (v' : Value) (w' : World) : Prop where
  i : TellI w w' v' l
  sz : W.heap.size ≤ w'.heap.size
  keep : ∀ p, p < W.heap.size → v.ownBlock ≠ some p → w'.heap[p]? = W.heap[p]?
  off : ∀ p, p < W.heap.size → v.ownBlock ≠ some p → v'.ownBlock ≠ some p
theorem tell_in {w W : World} {v : Value} {l : List UInt8} (h : TellI w W v l) (hll : l.length ≤ 10000000) {a : Option Addr} {len cap : Nat} {ws : List ByteArray} (hw : Su W a len cap ws) (h0 : 0 < len) (hl : len ≤ 100) (hj : (lineL ws).length ≤ 10000000) :
    Calls Tryd.prog 15 #[v, .slice a len cap] W fun e w' => ∃ v', e = .returned v' ∧ TellE w W v (l ++ lineL ws) v' w' := by
  refine (tell_any h.own h.gr.size hll hw h0 hl hj).mono fun e w' ⟨v', he, ho, g, t⟩ => ⟨v', he, ⟨ho, ?_⟩, g.size, fun p hp hn => g.block p hp (fun e => hn e.symm), fun p hp hn e => ?_⟩
  · exact ⟨g.os.trans h.gr.os, g.tape.trans h.gr.tape, g.output.trans h.gr.output, Nat.le_trans h.gr.size g.size, fun k hk _ => (g.block k (Nat.lt_of_lt_of_le hk h.gr.size) (fun e => by have := (own_at h.own e.symm).1; omega)).trans (h.gr.block k hk (by simp))⟩
  · rcases t with t | ⟨k, t, hk⟩
    · exact hn (t.symm.trans e)
    · rw [t] at e
      have := Option.some.inj e
      omega
theorem Box.keep {w0 w W w' : World} {q : Nat} {x : Rv} {va : Option Addr} {vc : Nat} {v v' : Value} {l : List UInt8} (h : Box w0 W q x va vc) (t : TellE w W v l v' w') (hv : v.ownBlock ≠ some q) : w'.cell? ⟨q, 1, none⟩ = some (.slice va x.val.length vc) :=
  (World.cell?_of_block (a := ⟨q, 1, none⟩) (t.keep q h.lt hv)).trans h.val
theorem conv_bu {W : World} {a : Option Addr} {c : Nat} {l : List UInt8} (h : Bu W a l.length c l) : (convert 32 9 (.slice a l.length c)).run Tryd.prog W = .ok (.string (mkS l)) W := by
  have := conv_bs h.b
  rw [strOf_ints] at this
  exact this
theorem headW_len (k : ByteArray) (x : Rv) (b : Bool) : 0 < (headW k x b).length ∧ (headW k x b).length ≤ 100 := by cases b <;> simp [headW]
theorem int_nltH (n : Nat) : ¬ (n : Int) < (n : Int) := by omega
theorem key_cell {w : World} {b o : Nat} {c : Cv} {va : Option Addr} {vc : Nat} (h : w.rangeAt b o (cmC c va vc).toList) : w.cell? ⟨b, o + 1, none⟩ = some (.string c.key) := h 1 _ rfl
theorem op_cell {w : World} {b o : Nat} {c : Cv} {va : Option Addr} {vc : Nat} (h : w.rangeAt b o (cmC c va vc).toList) : w.cell? ⟨b, o, none⟩ = some (.int .i64 c.op) := h 0 _ rfl
section
variable {w : World} {ca la : Option Addr} {cc lc n : Nat} {cs : List Cv} {xs : List Rv} {b : Bool}
/-- Where the telling stands. -/
def HInv (w : World) (n : Nat) (cs : List Cv) (xs : List Rv) (b : Bool) (i v : Value) (wr : World) : Prop := ∃ k : Nat, k ≤ n ∧ i = .int .i64 k ∧ Hid (TellI w wr v (hitsL (cs.take k) (xs.take k) b))
set_option maxRecDepth 100000 in
set_option maxHeartbeats 4000000 in
theorem hits_any (hL : Laid w) (hc : Cu w ca n cc cs) (hx : Ru w la n lc xs) (hn : n ≤ 40) (hk : ∀ c ∈ cs, c.key.size ≤ 1000) (hv : ∀ x ∈ xs, x.val.length ≤ 2000) :
    Calls Tryd.prog 13 #[.slice ca n cc, .slice la n lc, .bool b] w fun e w' => Ans w (hitsL cs xs b ++ (tailL ++ endL)) e w' := by
  have hcn := hc.n
  have hxn := hx.n
  go_enter Tryd.func13, Tryd.ntmps13
  go_wp2
  go_loopw [12, 7] (fun i v wr => HInv w n cs xs b i v wr) (fun i _ _ => n - (intOf i).toNat)
  case atStart => exact ⟨0, Nat.zero_le _, rfl, ⟨by simp [hitsL]; exact World.ownsRow_nil _ _ _ _, gr_refl _ _⟩⟩
  case round =>
    obtain ⟨k, hkn, rfl, HI⟩ := hrel
    have hkl := hitsL_len b (cs.take k) (xs.take k) (fun c h => hk c (List.mem_of_mem_take h)) (fun x h => ⟨hx.ok x (List.mem_of_mem_take h), hv x (List.mem_of_mem_take h)⟩)
    have hll : (hitsL (cs.take k) (xs.take k) b).length ≤ 200000 := by
      have : (cs.take k).length ≤ 40 := by rw [List.length_take]; omega
      omega
    clear hkl
    by_cases hlt : k < n
    · have hki : (k : Int) < (n : Int) := by omega
      have HC2 := hc.on (below_gr HI.out.gr)
      obtain ⟨lb, lo, rfl, hlb, va, vc, hr0, hbu⟩ := hx.get hlt
      have hr : wr.rangeAt lb (lo + k * 9) (rsC (xs[k]'(by omega)) va vc).toList := fun j v hv => ((below_gr HI.out.gr).cell (p := ⟨lb, lo + k * 9 + j, none⟩) hlb).trans (hr0 j v hv)
      clear hr0
      obtain ⟨cb, co, rfl, ka, kc, hrc, _⟩ := HC2.get hlt
      have HN := hide (hitsL_next b (cs := cs) (xs := xs) (k := k) (by omega) (by omega))
      have hxo := hx.ok _ (List.getElem_mem (show k < xs.length by omega))
      have hvl := hv _ (List.getElem_mem (show k < xs.length by omega))
      have hkl := hk _ (List.getElem_mem (show k < cs.length by omega))
      have hcb : cb < wr.heap.size := block_lt_of_cell (key_cell hrc)
      generalize xs[k]'(by omega) = x at *
      generalize cs[k]'(by omega) = c at *
      have B1 := Box.new wr x va vc
      have KC := key_cell hrc
      obtain ⟨W1, hW1⟩ : ∃ W1, W1 = wr.alloc (.cells (rsC x va vc) 38) := ⟨_, rfl⟩
      obtain ⟨P, hP⟩ : ∃ P, P = wr.heap.size := ⟨_, rfl⟩
      rw [← hW1, ← hP] at B1
      have s1 := B1.s
      have KD : Hid (∀ W', W1.grownBy W' none → W'.cell? ⟨cb, co + k * 10 + 1, none⟩ = some (.string c.key)) := fun W' hg => (World.cell?_of_block (a := ⟨cb, co + k * 10 + 1, none⟩) ((gr_trans B1.gr hg).block cb hcb (by simp))).trans KC
      replace hr := hide hr
      replace hbu := hide hbu
      have e1 : wrap64 ((k : Int) + 1) = (k : Int) + 1 := by unfold wrap64; omega
      clear KC hrc hcb hlb HC2
      by_cases h0 : x.s = 0
      · have e0 : (x.s == 0) = true := by rw [h0]; rfl
        have hh : hitL c.key x b = lineL (headW c.key x b) ++ lineL [mkS x.val] := by unfold hitL; rw [if_pos h0, line_one, mkS_list]
        rw [hh, ← List.append_assoc] at HN
        have hhl := headL_len c.key hxo hvl b
        have hL1 := hide (hL.up (gr_trans HI.out.gr B1.gr))
        have I1 := hide (HI.out.on B1.gr)
        have A1 : Hid (u7.ownBlock ≠ some P) := by rw [hP]; exact HI.out.apart (Nat.le_refl _)
        have BX := hide B1
        have hwl : 0 < (headW c.key x b).length ∧ (headW c.key x b).length ≤ 100 := headW_len c.key x b
        have hwl2 := hide hwl
        have hll4 : (hitsL (cs.take k) (xs.take k) b ++ lineL (headW c.key x b)).length ≤ 10000000 := by rw [List.length_append]; omega
        have hll5 : (lineL [mkS x.val]).length ≤ 10000000 := by rw [line_one, mkS_list, List.length_append]; show _ + 2 ≤ _; omega
        replace hll4 := hide hll4
        replace hll5 := hide hll5
        have hll3 : Hid ((lineL (headW c.key x b)).length ≤ 10000000) := (show (lineL (headW c.key x b)).length ≤ 10000000 by omega)
        have hll2 := hide hll
        clear h0 hh hwl hhl hll
        go_upto_region 6 with (first
          | (refine wpList_load_mid rfl 38 _ rfl lb (lo + k * 9) rfl (rsC x va vc).toList _ hr.out Tryd.underlying38 rfl (by rw [res_size x va vc, Array.length_toList]) ?_)
          | (refine wpList_store_row rfl 38 _ _ rfl wr.heap.size (rsC x va vc) rfl rfl _ _ (World.alloc_heap_new wr _) (res_size x va vc) rfl (res_one x va vc) ?_; rw [setRow_alloc, ← hW1, ← hP]; replace hW1 := hide hW1; replace hP := hide hP))
        refine region_htail (S := fun W' => W1.grownBy W' none) 9 (by kernel_rfl) (by simp) (by kernel_rfl) ?_
        simp only [List.take_succ_cons, List.take_zero, List.drop_succ_cons, List.drop_zero]
        have S0 : W1.grownBy W1.drew none := gr_of_below (Below.drew (Below.refl _ _))
        generalize W1.drew = W2 at *
        refine take_at 0 20 (v := u7) rfl rfl (by kernel_rfl) (by kernel_rfl) (by kernel_rfl) (fun _ _ _ h => h) (Or.inl ⟨by rfl, fun W hC => by go_simp⟩) S0 ?_
        simp only [Act.put, List.setIfInBounds_toArray, List.set_cons_zero, List.set_cons_succ]
        refine take_at 1 21 (v := .slice (some ⟨cb, co, none⟩) n cc) rfl rfl (by kernel_rfl) (by kernel_rfl) (by kernel_rfl) (fun _ _ _ h => h) (Or.inl ⟨by rfl, fun W hC => by go_simp⟩) S0 ?_
        simp only [Act.put, List.setIfInBounds_toArray, List.set_cons_zero, List.set_cons_succ]
        refine take_at 2 22 (v := .int .i64 (k : Int)) rfl rfl (by kernel_rfl) (by kernel_rfl) (by kernel_rfl) (fun _ _ _ h => h) (Or.inl ⟨by rfl, fun W hC => by go_simp⟩) S0 ?_
        simp only [Act.put, List.setIfInBounds_toArray, List.set_cons_zero, List.set_cons_succ]
        refine take_at 3 23 (v := .pointer (some ⟨cb, co + k * 10, none⟩)) rfl rfl (by kernel_rfl) (by kernel_rfl) (by kernel_rfl) (fun _ _ _ h => h) (Or.inl ⟨by rfl, fun W hC => by go_simp⟩) S0 ?_
        simp only [Act.put, List.setIfInBounds_toArray, List.set_cons_zero, List.set_cons_succ]
        refine take_at 4 24 (v := .pointer (some ⟨cb, co + k * 10 + 1, none⟩)) rfl rfl (by kernel_rfl) (by kernel_rfl) (by kernel_rfl) (fun _ _ _ h => h) (Or.inl ⟨by rfl, fun W hC => by go_simp⟩) S0 ?_
        simp only [Act.put, List.setIfInBounds_toArray, List.set_cons_zero, List.set_cons_succ]
        refine take_at 5 25 (v := .string c.key) rfl rfl (by kernel_rfl) (by kernel_rfl) (by kernel_rfl) (fun _ _ _ h => h) (Or.inl ⟨by rfl, fun W hC => by have c := KD.out W hC; go_simp⟩) S0 ?_
        simp only [Act.put, List.setIfInBounds_toArray, List.set_cons_zero, List.set_cons_succ]
        refine take_at 6 26 (v := .agg (rsC x va vc)) rfl rfl (by kernel_rfl) (by kernel_rfl) (by kernel_rfl) (fun _ _ _ h => h) (Or.inl ⟨by rfl, fun W hC => run_load_row 38 _ rfl P rfl (B1.on hC).row Tryd.underlying38 rfl (res_size x va vc)⟩) S0 ?_
        simp only [Act.put, List.setIfInBounds_toArray, List.set_cons_zero, List.set_cons_succ]
        refine take_at 7 27 (v := .bool b) rfl rfl (by kernel_rfl) (by kernel_rfl) (by kernel_rfl) (fun _ _ _ h => h) (Or.inl ⟨by rfl, fun W hC => by go_simp⟩) S0 ?_
        simp only [Act.put, List.setIfInBounds_toArray, List.set_cons_zero, List.set_cons_succ]
        refine one_at 8 (by kernel_rfl) rfl rfl ?_
        refine oper_call 28 rfl (by go_simp) (head_any (x := x) (k := c.key) (va := va) (vc := vc) (b := b) (hL1.out.up S0) hxo hvl) ?_
        rintro e w3 ⟨wa, wc, rfl, hw, g3⟩
        refine ⟨_, rfl, gr_trans S0 g3, ?_⟩
        simp only [Act.put, List.setIfInBounds_toArray, List.set_cons_zero, List.set_cons_succ]
        refine wpAnyH_done (by kernel_rfl) ?_ _
        change wpList _ _ _ _ _ _
        have I3 := hide (I1.out.on (gr_trans S0 g3))
        have B3 := hide (BX.out.on (gr_trans S0 g3))
        replace hw := hide hw
        clear g3 S0 B1 s1 KD
        have N1 : Hid (w = w) := rfl
        go_wp2_with (first
          | (go_at_call 15; have t := N1; clear t; refine (tell_in I3.out (by have := hll2.out; omega) hw.out hwl2.out.1 hwl2.out.2 hll3.out).mono ?_; rintro e w4 ⟨v4, rfl, T4⟩; have c4 := B3.out.keep T4 A1.out; have hcv := conv_bu (hbu.out.on (below_gr T4.i.gr)); replace T4 := hide T4; clear N1; have N2 : Hid (w = w) := rfl)
          | (go_at_call 15; have t := N2; clear t; refine (tell_in (T4.out.i.on (World.grownBy_alloc w4 (.cells #[.string (mkS x.val)] 9) none)) hll4.out (su_one w4 (mkS x.val)) (by decide) (by decide) hll5.out).mono ?_; rintro e w5 ⟨v5, rfl, T5⟩; clear N2 c4 hcv; replace T5 := hide T5))
        go_roundw
        case rel => exact ⟨k + 1, by omega, by go_num, by rw [HN.out]; exact T5.out.i⟩
        case measure => simp [intOf]; omega
      · have e0 : (x.s == 0) = false := by rw [beq_eq_false_iff_ne]; exact h0
        have hh : hitL c.key x b = [] := by unfold hitL; rw [if_neg h0]
        rw [hh, List.append_nil] at HN
        replace hh := hide hh
        clear h0
        go_wp2_with (first
          | (refine wpList_load_mid rfl 38 _ rfl lb (lo + k * 9) rfl (rsC x va vc).toList _ hr.out Tryd.underlying38 rfl (by rw [res_size x va vc, Array.length_toList]) ?_)
          | (refine wpList_store_row rfl 38 _ _ rfl wr.heap.size (rsC x va vc) rfl rfl _ _ (World.alloc_heap_new wr _) (res_size x va vc) rfl (res_one x va vc) ?_; rw [setRow_alloc, ← hW1, ← hP]; replace hW1 := hide hW1; replace hP := hide hP))
        go_roundw
        case rel => exact ⟨k + 1, by omega, by go_num, by rw [HN.out]; exact HI.out.on B1.gr⟩
        case measure => simp [intOf]; omega
    · obtain rfl : k = n := by omega
      have HZ := hide (hitsL_take b cs xs k (by omega))
      have hki := int_nltH k
      have T0 : (⟨#[69, 78, 68]⟩ : ByteArray).data.toList = tailL := rfl
      go_wp2_with (go_at_call 15; refine (tell_in (HI.out.on (World.grownBy_alloc wr (.cells #[.string ⟨#[69, 78, 68]⟩] 9) none)) (by omega) (su_one wr ⟨#[69, 78, 68]⟩) (by decide) (by decide) (by rw [line_one]; decide)).mono ?_; rintro e w5 ⟨v5, rfl, T5⟩; replace T5 := hide T5)
      go_ret
      have o := T5.out.i.own
      rw [HZ.out, line_one, T0] at o
      exact ⟨v5, rfl, o, T5.out.i.gr⟩
end
end Go.Proofs.YtnkfpiccfmdllaaDoor
