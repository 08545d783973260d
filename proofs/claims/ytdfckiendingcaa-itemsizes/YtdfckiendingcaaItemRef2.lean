/- What the document's own layer 10 answers: whether an item lives, and what a flush is. Conditions: times up to 2 to the 40th, seconds up to 2 to the 41st, of a flush. -/
import Derived.Test.YtdfckiendingcaaItemRef
import Derived.Laws.ResultCell
namespace Go.Proofs.Ytdfckiendingcaa
open Go.RowKit Go.Sort

theorem results_cell10 {fn : Func} {p : Tmp} {ty : TypeId} (h : fn.results = #[.cell p ty]) (tmps : Array Value) (P : Program) (w : World) :
    (results fn tmps).run P w = ((asAddr (tmps.getD p undef)).run P w).andThen fun a w₁ => (loadVar ty a).run P w₁ := by
  simp only [results, h]
  simp [Sem.run_bind, Result.andThen]
theorem live_cases (exp sec seq : Int) (e : En) :
    (exp ≠ 0 ∧ exp ≤ e.now ∧ liveN exp sec seq e = false) ∨
    ((exp = 0 ∨ (exp ≠ 0 ∧ e.now < exp)) ∧ ((e.flush = 0 ∧ liveN exp sec seq e = true) ∨ (e.flush ≠ 0 ∧ e.now < e.flush ∧ liveN exp sec seq e = true) ∨
      (e.flush ≠ 0 ∧ e.flush ≤ e.now ∧ ((e.flush < sec ∧ liveN exp sec seq e = true) ∨ (sec = e.flush ∧ e.fseq ≤ seq ∧ liveN exp sec seq e = true) ∨ (sec = e.flush ∧ seq < e.fseq ∧ liveN exp sec seq e = false) ∨ (sec < e.flush ∧ liveN exp sec seq e = false))))) := by
  by_cases h1 : exp ≠ 0 ∧ exp ≤ e.now
  · exact .inl ⟨h1.1, h1.2, by unfold liveN; rw [if_pos h1]⟩
  · refine .inr ⟨by omega, ?_⟩
    have e1 : ∀ x, (e.flush = 0 ∨ e.now < e.flush) → x = true → liveN exp sec seq e = x := fun x h hx => by unfold liveN; rw [if_neg h1, if_pos h, hx]
    by_cases h2 : e.flush = 0
    · exact .inl ⟨h2, e1 _ (.inl h2) rfl⟩
    · by_cases h3 : e.now < e.flush
      · exact .inr (.inl ⟨h2, h3, e1 _ (.inr h3) rfl⟩)
      · have e2 : liveN exp sec seq e = !decide (elderN sec seq e.flush e.fseq) := by unfold liveN; rw [if_neg h1, if_neg (by omega)]
        refine .inr (.inr ⟨h2, by omega, ?_⟩)
        rw [e2]
        by_cases h4 : e.flush < sec
        · exact .inl ⟨h4, by rw [decide_eq_false (by unfold elderN; omega)]; rfl⟩
        · by_cases h5 : sec = e.flush
          · by_cases h6 : e.fseq ≤ seq
            · exact .inr (.inl ⟨h5, h6, by rw [decide_eq_false (by unfold elderN; omega)]; rfl⟩)
            · exact .inr (.inr (.inl ⟨h5, by omega, by rw [decide_eq_true (by unfold elderN; omega)]; rfl⟩))
          · exact .inr (.inr (.inr ⟨by omega, by rw [decide_eq_true (by unfold elderN; omega)]; rfl⟩))
set_option maxRecDepth 100000 in
set_option maxHeartbeats 4000000 in
theorem refLive_any (i : It) (e : En) (w : World) : Calls Try.prog 18 #[.agg (itC i), .agg (enC e)] w fun x w' => x = .returned (.bool (liveN i.exp i.sec i.seq e)) ∧ Gd w w' := by
  have hc := live_cases i.exp i.sec i.seq e
  obtain ⟨key, va, vl, vc, fl, exp, cas, sec, seq, st, won, seen⟩ := i
  obtain ⟨now, eseq, flush, fseq⟩ := e
  have hg := (Gd.alloc w (.cells (itC ⟨key, va, vl, vc, fl, exp, cas, sec, seq, st, won, seen⟩) 26)).trans (Gd.alloc _ (.cells (enC ⟨now, eseq, flush, fseq⟩) 34))
  unfold itC enC at *
  dsimp only at *
  generalize hr : liveN exp sec seq ⟨now, eseq, flush, fseq⟩ = r at *
  clear hr
  rcases hc with ⟨h1, h2, rfl⟩ | ⟨h1 | ⟨h1, h2⟩, ⟨h3, rfl⟩ | ⟨h3, h4, rfl⟩ | ⟨h3, h4, ⟨h5, rfl⟩ | ⟨h5, h6, rfl⟩ | ⟨h5, h6, rfl⟩ | ⟨h5, rfl⟩⟩⟩
  all_goals
    try (have b1 : (exp == 0) = false := beq_eq_false_iff_ne.2 h1)
    try subst h1
    try (have b3 : (flush == 0) = false := beq_eq_false_iff_ne.2 h3)
    try subst h3
    try (have b5 : (sec == flush) = false := beq_eq_false_iff_ne.2 (by omega))
    try subst h5
    go_enter Try.func18, Try.ntmps18
    go_wp2
    go_ret
    refine ⟨?_, hg⟩
    first
      | rfl
      | (show Ending.returned (.bool (decide _)) = _; rw [decide_eq_false (by omega)])
      | (show Ending.returned (.bool (decide _)) = _; rw [decide_eq_true (by omega)])
theorem mid_heap (w : World) (a b c : Obj) : (((w.alloc a).alloc b).alloc c).heap[w.heap.size + 1]? = some b := by
  have h := heap_alloc_new (w.alloc a) b
  rw [World.size_alloc] at h
  exact heap_grown0 (World.grownBy_alloc _ _ none) h
/-- An env that lies in a block is what is answered. -/
theorem en_ret {fn : Func} {W : World} {r : Nat} {e : En} {tmps : Array Value} {p : Tmp} {Post : Ending → World → Prop} (hf : fn.results = #[.cell p 34]) (hb : W.heap[r]? = some (.cells (enC e) 34 (0, 0))) (h4 : tmps.getD p undef = .pointer (some ⟨r, 0, none⟩))
    (h : Post (.returned (.agg (enC e))) W) : bodyPost Try.prog fn Post .ret { tmps := tmps, defers := [] } W := by
  have hl := run_loadVar_row (P := Try.prog) W r _ 34 _ _ _ hb Try.underlying34 rfl (by kernel_rfl)
  have hr : (results fn tmps).run Try.prog W = .ok (.agg (enC e)) W := by
    rw [results_cell10 hf, h4]
    simp only [asAddr, Sem.run_pure, Result.andThen_ok, hl]
  exact bodyPost_ret hr rfl h
set_option maxRecDepth 100000 in
set_option maxHeartbeats 4000000 in
theorem refFlush_any (exp : Int) (e : En) (he : T40 exp) (hn : N41 e.now) (w : World) : Calls Try.prog 20 #[.int .i64 exp, .agg (enC e)] w fun x w' => x = .returned (.agg (enC (flushN exp e))) ∧ Gd w w' := by
  obtain ⟨now, eseq, flush, fseq⟩ := e
  have HA := hide (fun W => refAt_any exp now he hn W)
  dsimp only at *
  by_cases h1 : 0 < exp
  · have hF : flushN exp ⟨now, eseq, flush, fseq⟩ = ⟨now, eseq, atN exp now, 0⟩ := by unfold flushN; rw [if_pos h1]
    rw [hF]
    unfold enC
    dsimp only
    go_enter Try.func20, Try.ntmps20
    go_wp2_with (go_at_call 12; refine (HA.out _).mono ?_; rintro e w' ⟨rfl, rfl⟩)
    exact en_ret (e := ⟨now, eseq, atN exp now, 0⟩) (r := w.heap.size + 1) rfl (mid_heap w _ _ _) rfl ⟨rfl, ((Gd.alloc _ _).trans (Gd.alloc _ _)).trans (Gd.alloc _ _)⟩
  · by_cases h2 : now < 1
    · have hF : flushN exp ⟨now, eseq, flush, fseq⟩ = ⟨now, eseq, 1, eseq⟩ := by unfold flushN; rw [if_neg h1]; dsimp only; rw [show max now 1 = 1 by omega]
      rw [hF]
      unfold enC
      dsimp only
      go_enter Try.func20, Try.ntmps20
      go_wp2_with fail
      exact en_ret (e := ⟨now, eseq, 1, eseq⟩) (r := w.heap.size + 1) rfl (mid_heap w _ _ _) rfl ⟨rfl, ((Gd.alloc _ _).trans (Gd.alloc _ _)).trans (Gd.alloc _ _)⟩
    · have hF : flushN exp ⟨now, eseq, flush, fseq⟩ = ⟨now, eseq, now, eseq⟩ := by unfold flushN; rw [if_neg h1]; dsimp only; rw [show max now 1 = now by omega]
      rw [hF]
      unfold enC
      dsimp only
      go_enter Try.func20, Try.ntmps20
      go_wp2_with fail
      exact en_ret (e := ⟨now, eseq, now, eseq⟩) (r := w.heap.size + 1) rfl (mid_heap w _ _ _) rfl ⟨rfl, ((Gd.alloc _ _).trans (Gd.alloc _ _)).trans (Gd.alloc _ _)⟩
end Go.Proofs.Ytdfckiendingcaa
