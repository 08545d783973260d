/- Two requests, and two steps, that are the same are told to be. Conditions: at most 1000000 commands, keys and tokens. -/
import Derived.Test.YthofdmepofepgaaDoorG35Joined
import Derived.Test.YthofdmepofepgaaDoorRegionHT
namespace Go.Proofs.YthofdmepofepgaaDoor
set_option linter.unusedVariables false
open Go.RowKit

theorem fmC_size (f : Fv) (ta : Option Addr) (tc : Nat) (ka : Option Addr) (kc : Nat) : (Tryd.prog.info? 28).map (·.size) = some (fmC f ta tc ka kc).size := by
  have h : (Tryd.prog.info? 28).map (·.size) = some 10 := by kernel_rfl
  exact h
theorem fmC_one (f : Fv) (ta : Option Addr) (tc : Nat) (ka : Option Addr) (kc : Nat) : (fmC f ta tc ka kc).all (·.oneCell') = true := by simp [fmC, Value.oneCell']
section
variable {w : World} {r : Qv} {ca ta ka : Option Addr} {cc tc kc : Nat} {t : TypeId} {p : Nat}
theorem rq_at (h : w.heap[p]? = some (.cells (rqC r ca cc ta tc ka kc) t (0, 0))) (j : Nat) (v : Value) (hv : (rqC r ca cc ta tc ka kc)[j]? = some v) : w.cell? ⟨p, j, none⟩ = some v := by
  unfold World.cell?
  rw [h]
  exact hv
theorem rq_form (h : w.heap[p]? = some (.cells (rqC r ca cc ta tc ka kc) t (0, 0))) : w.rangeAt p 1 (fmC r.form ta tc ka kc).toList := fun j v hv => by
  have hj : j < 10 := (List.getElem?_eq_some_iff.1 hv).1
  refine rq_at h _ v ?_
  match j, hj with
  | 0, _ | 1, _ | 2, _ | 3, _ | 4, _ | 5, _ | 6, _ | 7, _ | 8, _ | 9, _ => exact hv
theorem fm_at {f : Fv} (h : w.heap[p]? = some (.cells (fmC f ta tc ka kc) t (0, 0))) (j : Nat) (v : Value) (hv : (fmC f ta tc ka kc)[j]? = some v) : w.cell? ⟨p, j, none⟩ = some v := by
  unfold World.cell?
  rw [h]
  exact hv
theorem fm_cells {f : Fv} (h : w.heap[p]? = some (.cells (fmC f ta tc ka kc) t (0, 0))) : w.cell? ⟨p, 0, none⟩ = some (.int .i64 f.dia) ∧ w.cell? ⟨p, 1, none⟩ = some (.string f.verb) ∧ w.cell? ⟨p, 2, none⟩ = some (.int .i64 f.code) ∧ w.cell? ⟨p, 3, none⟩ = some (.int .u32 f.opq) ∧ w.cell? ⟨p, 4, none⟩ = some (.bool f.quiet) ∧ w.cell? ⟨p, 5, none⟩ = some (.bool f.wcas) ∧ w.cell? ⟨p, 6, none⟩ = some (.string f.flags) ∧ w.cell? ⟨p, 7, none⟩ = some (.slice ta f.toks.length tc) ∧ w.cell? ⟨p, 8, none⟩ = some (.slice ka f.keys.length kc) ∧ w.cell? ⟨p, 9, none⟩ = some (.bool f.b64) :=
  ⟨fm_at h 0 _ rfl, fm_at h 1 _ rfl, fm_at h 2 _ rfl, fm_at h 3 _ rfl, fm_at h 4 _ rfl, fm_at h 5 _ rfl, fm_at h 6 _ rfl, fm_at h 7 _ rfl, fm_at h 8 _ rfl, fm_at h 9 _ rfl⟩
end
/-- The four blocks of Requests. -/
structure RBox (w : World) (r : Qv) (ca ta ka cb tb kb : Option Addr) (cc tc kc cd td kd : Nat) (W : World) : Prop where
  gr : w.grownBy W none
  a : W.heap[w.heap.size]? = some (.cells (rqC r ca cc ta tc ka kc) 30 (0, 0))
  b : W.heap[w.heap.size + 1]? = some (.cells (rqC r cb cd tb td kb kd) 30 (0, 0))
  f : W.heap[w.heap.size + 1 + 1]? = some (.cells (fmC r.form ta tc ka kc) 28 (0, 0))
  g : W.heap[w.heap.size + 1 + 1 + 1]? = some (.cells (fmC r.form tb td kb kd) 28 (0, 0))
theorem RBox.on {w W W' : World} {r : Qv} {ca ta ka cb tb kb : Option Addr} {cc tc kc cd td kd : Nat} (h : RBox w r ca ta ka cb tb kb cc tc kc cd td kd W) (hg : W.grownBy W' none) : RBox w r ca ta ka cb tb kb cc tc kc cd td kd W' := by
  have lt : ∀ {b : Nat} {o : Obj}, W.heap[b]? = some o → b < W.heap.size := fun h => (Array.getElem?_eq_some_iff.1 h).1
  exact ⟨gr_trans h.gr hg, (hg.block _ (lt h.a) (by simp)).trans h.a, (hg.block _ (lt h.b) (by simp)).trans h.b, (hg.block _ (lt h.f) (by simp)).trans h.f, (hg.block _ (lt h.g) (by simp)).trans h.g⟩
theorem rbox (w : World) (r : Qv) (ca ta ka cb tb kb : Option Addr) (cc tc kc cd td kd : Nat) : RBox w r ca ta ka cb tb kb cc tc kc cd td kd ((((w.alloc (.cells (rqC r ca cc ta tc ka kc) 30)).alloc (.cells (rqC r cb cd tb td kb kd) 30)).alloc (.cells (fmC r.form ta tc ka kc) 28)).alloc (.cells (fmC r.form tb td kb kd) 28)) := by
  have H := ((((Law.start w).box (.cells (rqC r ca cc ta tc ka kc) 30)).box (.cells (rqC r cb cd tb td kb kd) 30)).box (.cells (fmC r.form ta tc ka kc) 28)).box (.cells (fmC r.form tb td kb kd) 28)
  simp only [World.size_alloc] at H
  exact ⟨gr_of_below H.below, H.q.2.1.2.1.2.1.1, H.q.2.1.2.1.1, H.q.2.1.1, H.q.1⟩
section
variable {w : World} {r : Qv} {ca ta ka cb tb kb : Option Addr} {cc tc kc cd td kd : Nat}
set_option maxRecDepth 100000 in
set_option maxHeartbeats 4000000 in
theorem requests_eq (h1 : QAt w r ca cc ta tc ka kc) (h2 : QAt w r cb cd tb td kb kd) (hn : r.cmds.length ≤ 1000000) (hk : r.form.keys.length ≤ 1000000) (ht : r.form.toks.length ≤ 1000000) : Calls Tryd.prog 16 #[.agg (rqC r ca cc ta tc ka kc), .agg (rqC r cb cd tb td kb kd)] w fun e w' => e = .returned (.bool true) ∧ w.grownBy w' none := by
  have hR := rbox w r ca ta ka cb tb kb cc tc kc cd td kd
  obtain ⟨W2, hW2⟩ : ∃ W2, W2 = (w.alloc (.cells (rqC r ca cc ta tc ka kc) 30)).alloc (.cells (rqC r cb cd tb td kb kd) 30) := ⟨_, rfl⟩
  obtain ⟨W3, hW3⟩ : ∃ W3, W3 = W2.alloc (.cells (fmC r.form ta tc ka kc) 28) := ⟨_, rfl⟩
  obtain ⟨W4, hW4⟩ : ∃ W4, W4 = W3.alloc (.cells (fmC r.form tb td kb kd) 28) := ⟨_, rfl⟩
  have z2 : W2.heap.size = w.heap.size + 1 + 1 := by rw [hW2, World.size_alloc, World.size_alloc]
  have z3 : W3.heap.size = w.heap.size + 1 + 1 + 1 := by rw [hW3, World.size_alloc, z2]
  rw [← hW2, ← hW3, ← hW4] at hR
  have hA2 : W2.heap[w.heap.size]? = some (.cells (rqC r ca cc ta tc ka kc) 30 (0, 0)) := by rw [hW2, Below.heap_alloc _ _ _ (by rw [World.size_alloc]; omega)]; exact World.alloc_heap_new _ _
  have hB3 : W3.heap[w.heap.size + 1]? = some (.cells (rqC r cb cd tb td kb kd) 30 (0, 0)) := by
    rw [hW3, Below.heap_alloc _ _ _ (by omega), hW2]
    have := World.alloc_heap_new (w.alloc (.cells (rqC r ca cc ta tc ka kc) 30)) (.cells (rqC r cb cd tb td kb kd) 30)
    rw [World.size_alloc] at this
    exact this
  have ra := rq_form hA2
  have rb := rq_form hB3
  have S3 : Hid (∀ old, (W2.alloc (.cells old 28)).setRow (w.heap.size + 1 + 1) (fmC r.form ta tc ka kc) = W3) := fun old => by rw [hW3, ← z2]; exact setRow_alloc _ _ _ _
  have S4 : Hid (∀ old, (W3.alloc (.cells old 28)).setRow (w.heap.size + 1 + 1 + 1) (fmC r.form tb td kb kd) = W4) := fun old => by rw [hW4, ← z3]; exact setRow_alloc _ _ _ _
  have N3 : Hid (∀ old, (W2.alloc (.cells old 28)).heap[w.heap.size + 1 + 1]? = some (.cells old 28 (0, 0))) := fun old => by rw [← z2]; exact World.alloc_heap_new _ _
  have N4 : Hid (∀ old, (W3.alloc (.cells old 28)).heap[w.heap.size + 1 + 1 + 1]? = some (.cells old 28 (0, 0))) := fun old => by rw [← z3]; exact World.alloc_heap_new _ _
  have ZW : Hid (W2.heap.size = w.heap.size + 1 + 1 ∧ W3.heap.size = w.heap.size + 1 + 1 + 1) := ⟨z2, z3⟩
  have a0 := rq_at hR.a 0 _ rfl
  have b0 := rq_at hR.b 0 _ rfl
  obtain ⟨f0, f1, f2, f3, f4, f5, f6, f7, f8, f9⟩ := fm_cells hR.f
  obtain ⟨g0, g1, g2, g3, g4, g5, g6, g7, g8, g9⟩ := fm_cells hR.g
  have HR := hide hR
  have H1 := hide h1
  have H2 := hide h2
  have HT := hide (fun (W : World) (hg : w.grownBy W none) => texts_eq ht (h1.toks.on (below_gr hg)) (h2.toks.on (below_gr hg)))
  have HK := hide (fun (W : World) (hg : w.grownBy W none) => texts_eq hk (h1.keys.on (below_gr hg)) (h2.keys.on (below_gr hg)))
  obtain ⟨n, hnn⟩ : ∃ n, r.cmds.length = n := ⟨_, rfl⟩
  have HN := hide hnn
  rw [hnn] at hn
  have a1 : W4.cell? ⟨w.heap.size, 0, none⟩ = some (.slice ca n cc) := by rw [← hnn]; exact a0
  have b1 : W4.cell? ⟨w.heap.size + 1, 0, none⟩ = some (.slice cb n cd) := by rw [← hnn]; exact b0
  clear hR h1 h2 hA2 hB3 hW3 hW4 ht hk hnn a0 b0
  go_enter Tryd.func16, Tryd.ntmps16
  go_wp2_with (first
    | (have t1 := hW2; clear t1; rw [← hW2]; refine wpList_load_mid rfl 28 _ rfl w.heap.size 1 rfl (fmC r.form ta tc ka kc).toList _ ra Tryd.underlying28 rfl (by rw [fmC_size r.form ta tc ka kc, Array.length_toList]) ?_; clear hW2)
    | (refine wpList_load_mid rfl 28 _ rfl (w.heap.size + 1) 1 rfl (fmC r.form tb td kb kd).toList _ rb Tryd.underlying28 rfl (by rw [fmC_size r.form tb td kb kd, Array.length_toList]) ?_)
    | (refine wpList_store_row rfl 28 _ _ rfl (w.heap.size + 1 + 1) (fmC r.form ta tc ka kc) rfl rfl _ _ (N3.out _) (fmC_size _ _ _ _ _) rfl (fmC_one _ _ _ _ _) ?_; rw [S3.out])
    | (refine wpList_store_row rfl 28 _ _ rfl (w.heap.size + 1 + 1 + 1) (fmC r.form tb td kb kd) rfl rfl _ _ (N4.out _) (fmC_size _ _ _ _ _) rfl (fmC_one _ _ _ _ _) ?_; rw [S4.out]))
  clear ra rb S3 S4 N3 N4 ZW z2 z3 f0 f1 f2 f3 f4 f5 f6 f7 f8 f9 g0 g1 g2 g3 g4 g5 g6 g7 g8 g9 a1 b1
  go_loopw [7] (fun i wr => ∃ k : Nat, k ≤ n ∧ i = .int .i64 k ∧ Hid (RBox w r ca ta ka cb tb kb cc tc kc cd td kd wr)) (fun i _ => n - (intOf i).toNat)
  case atStart => exact ⟨0, Nat.zero_le _, rfl, HR.out⟩
  case round =>
    obtain ⟨k, hk, rfl, RB⟩ := hrel
    have a1 : wr.cell? ⟨w.heap.size, 0, none⟩ = some (.slice ca n cc) := by rw [← HN.out]; exact rq_at RB.out.a 0 _ rfl
    have b1 : wr.cell? ⟨w.heap.size + 1, 0, none⟩ = some (.slice cb n cd) := by rw [← HN.out]; exact rq_at RB.out.b 0 _ rfl
    by_cases hlt : k < n
    · have hki : (k : Int) < (n : Int) := by omega
      have e1 : wrap64 ((k : Int) + 1) = (k : Int) + 1 := by unfold wrap64; omega
      obtain ⟨xb, xo, rfl, va, vc, x1, x2⟩ := (H1.out.cmds.on (below_gr RB.out.gr)).get (i := k) (by rw [HN.out]; exact hlt)
      obtain ⟨yb, yo, rfl, vb, vd, y1, y2⟩ := (H2.out.cmds.on (below_gr RB.out.gr)).get (i := k) (by rw [HN.out]; exact hlt)
      generalize r.cmds[k]'(by rw [HN.out]; exact hlt) = c at *
      have HC := hide (cmds_eq x2.drew y2.drew)
      have gd : Hid (wr.grownBy wr.drew none) := ⟨rfl, rfl, rfl, Nat.le_refl _, fun _ _ _ => rfl⟩
      have S0 : wr.drew.cell? ⟨w.heap.size, 0, none⟩ = some (.slice (some ⟨xb, xo, none⟩) n cc) ∧ wr.drew.cell? ⟨w.heap.size + 1, 0, none⟩ = some (.slice (some ⟨yb, yo, none⟩) n cd) ∧ wr.drew.rangeAt xb (xo + k * 10) (cmC c va vc).toList ∧ wr.drew.rangeAt yb (yo + k * 10) (cmC c vb vd).toList := ⟨a1, b1, x1, y1⟩
      clear x1 x2 y1 y2
      go_wp2
      refine region_htail (S := fun W' => W'.cell? ⟨w.heap.size, 0, none⟩ = some (.slice (some ⟨xb, xo, none⟩) n cc) ∧ W'.cell? ⟨w.heap.size + 1, 0, none⟩ = some (.slice (some ⟨yb, yo, none⟩) n cd) ∧ W'.rangeAt xb (xo + k * 10) (cmC c va vc).toList ∧ W'.rangeAt yb (yo + k * 10) (cmC c vb vd).toList) 10 (by kernel_rfl) (by simp) (by kernel_rfl) ?_
      simp only [List.take_succ_cons, List.take_zero, List.drop_succ_cons, List.drop_zero]
      refine take_at 0 85 (v := .pointer (some ⟨w.heap.size, 0, none⟩)) rfl rfl (by kernel_rfl) (by kernel_rfl) (by kernel_rfl) (fun _ _ _ h => h) (Or.inl ⟨by rfl, fun W hW => by obtain ⟨s1, s2, s3, s4⟩ := hW; go_simp⟩) S0 ?_
      simp only [Act.put, List.setIfInBounds_toArray, List.set_cons_zero, List.set_cons_succ]
      refine take_at 1 86 (v := .slice (some ⟨xb, xo, none⟩) n cc) rfl rfl (by kernel_rfl) (by kernel_rfl) (by kernel_rfl) (fun _ _ _ h => h) (Or.inl ⟨by rfl, fun W hW => by obtain ⟨s1, s2, s3, s4⟩ := hW; go_simp⟩) S0 ?_
      simp only [Act.put, List.setIfInBounds_toArray, List.set_cons_zero, List.set_cons_succ]
      refine take_at 2 87 (v := .int .i64 (k : Int)) rfl rfl (by kernel_rfl) (by kernel_rfl) (by kernel_rfl) (fun _ _ _ h => h) (Or.inl ⟨by rfl, fun W hW => by obtain ⟨s1, s2, s3, s4⟩ := hW; go_simp⟩) S0 ?_
      simp only [Act.put, List.setIfInBounds_toArray, List.set_cons_zero, List.set_cons_succ]
      refine take_at 3 88 (v := .pointer (some ⟨xb, xo + k * 10, none⟩)) rfl rfl (by kernel_rfl) (by kernel_rfl) (by kernel_rfl) (fun _ _ _ h => h) (Or.inl ⟨by rfl, fun W hW => by obtain ⟨s1, s2, s3, s4⟩ := hW; go_simp⟩) S0 ?_
      simp only [Act.put, List.setIfInBounds_toArray, List.set_cons_zero, List.set_cons_succ]
      refine take_at 4 89 (v := .agg (cmC c va vc)) rfl rfl (by kernel_rfl) (by kernel_rfl) (by kernel_rfl) (fun _ _ _ h => h) (yieldsIf_load_mid (by rfl) 38 _ rfl xb (xo + k * 10) rfl (cmC c va vc).toList _ (fun W hW => hW.2.2.1) Tryd.underlying38 rfl (by rw [cmd_size c va vc, Array.length_toList])) S0 ?_
      simp only [Act.put, List.setIfInBounds_toArray, List.set_cons_zero, List.set_cons_succ]
      refine take_at 5 90 (v := .pointer (some ⟨w.heap.size + 1, 0, none⟩)) rfl rfl (by kernel_rfl) (by kernel_rfl) (by kernel_rfl) (fun _ _ _ h => h) (Or.inl ⟨by rfl, fun W hW => by obtain ⟨s1, s2, s3, s4⟩ := hW; go_simp⟩) S0 ?_
      simp only [Act.put, List.setIfInBounds_toArray, List.set_cons_zero, List.set_cons_succ]
      refine take_at 6 91 (v := .slice (some ⟨yb, yo, none⟩) n cd) rfl rfl (by kernel_rfl) (by kernel_rfl) (by kernel_rfl) (fun _ _ _ h => h) (Or.inl ⟨by rfl, fun W hW => by obtain ⟨s1, s2, s3, s4⟩ := hW; go_simp⟩) S0 ?_
      simp only [Act.put, List.setIfInBounds_toArray, List.set_cons_zero, List.set_cons_succ]
      refine take_at 7 92 (v := .int .i64 (k : Int)) rfl rfl (by kernel_rfl) (by kernel_rfl) (by kernel_rfl) (fun _ _ _ h => h) (Or.inl ⟨by rfl, fun W hW => by obtain ⟨s1, s2, s3, s4⟩ := hW; go_simp⟩) S0 ?_
      simp only [Act.put, List.setIfInBounds_toArray, List.set_cons_zero, List.set_cons_succ]
      refine take_at 8 93 (v := .pointer (some ⟨yb, yo + k * 10, none⟩)) rfl rfl (by kernel_rfl) (by kernel_rfl) (by kernel_rfl) (fun _ _ _ h => h) (Or.inl ⟨by rfl, fun W hW => by obtain ⟨s1, s2, s3, s4⟩ := hW; go_simp⟩) S0 ?_
      simp only [Act.put, List.setIfInBounds_toArray, List.set_cons_zero, List.set_cons_succ]
      refine take_at 9 94 (v := .agg (cmC c vb vd)) rfl rfl (by kernel_rfl) (by kernel_rfl) (by kernel_rfl) (fun _ _ _ h => h) (yieldsIf_load_mid (by rfl) 38 _ rfl yb (yo + k * 10) rfl (cmC c vb vd).toList _ (fun W hW => hW.2.2.2) Tryd.underlying38 rfl (by rw [cmd_size c vb vd, Array.length_toList])) S0 ?_
      simp only [Act.put, List.setIfInBounds_toArray, List.set_cons_zero, List.set_cons_succ]
      refine wpAnyH_done (by kernel_rfl) ?_ _
      change wpList _ _ _ _ _ _
      clear S0 a1 b1
      go_wp2_with (go_at_call 25; refine HC.out.mono ?_; rintro e w6 ⟨rfl, g6⟩; have R6 := hide (RB.out.on (gr_trans gd.out g6)); clear g6)
      go_roundw
      case rel => exact ⟨k + 1, by omega, by go_num, R6.out⟩
      case measure => simp [intOf]; omega
    · obtain rfl : k = n := by omega
      have hki : ¬ (k : Int) < (k : Int) := by omega
      have f7 := (fm_cells RB.out.f).2.2.2.2.2.2.2.1
      have f8 := (fm_cells RB.out.f).2.2.2.2.2.2.2.2.1
      have g7 := (fm_cells RB.out.g).2.2.2.2.2.2.2.1
      have g8 := (fm_cells RB.out.g).2.2.2.2.2.2.2.2.1
      have N0 : Hid (w = w) := rfl
      have HK2 := hide (fun (W : World) (hg : wr.grownBy W none) => And.intro (HK.out W (gr_trans RB.out.gr hg)) (And.intro (fm_cells (RB.out.on hg).f).2.2.2.2.2.2.2.2.1 (fm_cells (RB.out.on hg).g).2.2.2.2.2.2.2.2.1))
      have GB := hide RB.out.gr
      go_wp2_with (first
        | (go_at_call 26; have t1 := N0; clear t1; refine (HT.out _ GB.out).mono ?_; rintro e w7 ⟨rfl, q7⟩; clear N0 f7 f8 g7 g8 a1 b1; obtain ⟨K7, f8, g8⟩ := HK2.out w7 q7; replace K7 := hide K7; have N1 : Hid (w = w) := rfl; replace q7 := hide (gr_trans GB.out q7); clear HK2)
        | (go_at_call 26; have t1 := N1; clear t1; refine K7.out.mono ?_; rintro e w8 ⟨rfl, q8⟩; clear N1; replace q8 := hide (gr_trans q7.out q8)))
      go_ret
      exact ⟨rfl, q8.out⟩
end
end Go.Proofs.YthofdmepofepgaaDoor
