/- Two commands, rows of texts, requests and steps that are the same are told to be, by the statements' own helpers. Conditions: none. Two requests, and two steps, that are the same are told to be. Conditions: at most 1000000 commands, keys and tokens. Two steps held against each other by the statements' own helper. Conditions: at most 1000000 commands, keys and tokens. Two requests of which one has more commands. Conditions: none. -/
import Derived.Test.YtegaljpllcgaaaaStepC
import Derived.Test.YtegaljpllcgaaaaByteClone
import Derived.Test.YtegaljpllcgaaaaSetRow
import Derived.Deep.QuietTactic
import Derived.BigQuiet
import Derived.Test.YtegaljpllcgaaaaG04Joined
namespace Go.Proofs.Ytegaljpllcgaaaa
set_option linter.unusedVariables false
open Go.RowKit

theorem wrap_next {k n c : Nat} (h : k < n) (hn : n ≤ c) (hc : c ≤ maxLen) : wrap64 ((k : Int) + 1) = (k : Int) + 1 := by
  unfold maxLen at hc
  unfold wrap64
  omega
theorem int_lt {k n : Nat} (h : k < n) : (k : Int) < (n : Int) := by omega
theorem int_nlt (n : Nat) : ¬ (n : Int) < (n : Int) := by omega
section
variable {w : World}
set_option maxRecDepth 100000 in
set_option maxHeartbeats 2000000 in
theorem cmds_eq {c : Cv} {va vb : Option Addr} {vc vd : Nat} (h1 : Bu w va c.val.length vc c.val) (h2 : Bu w vb c.val.length vd c.val) : Calls Try.prog 29 #[.agg (cmC c va vc), .agg (cmC c vb vd)] w fun e w' => e = .returned (.bool true) ∧ w.grownBy w' none := by
  have k1 := convU ((h1.alloc (.cells (cmC c va vc) 39)).alloc (.cells (cmC c vb vd) 39))
  have k2 := convU ((h2.alloc (.cells (cmC c va vc) 39)).alloc (.cells (cmC c vb vd) 39))
  have HG := hide (gr_trans (World.grownBy_alloc w (.cells (cmC c va vc) 39) none) (World.grownBy_alloc (w.alloc (.cells (cmC c va vc) 39)) (.cells (cmC c vb vd) 39) none))
  clear h1 h2
  simp only [cmC] at *
  go_enter Try.func29, Try.ntmps29
  go_wp2
  go_ret
  exact ⟨by first | rfl | (simp; done), HG.out⟩
set_option maxHeartbeats 2000000 in
theorem texts_eq {a b : Option Addr} {n c d : Nat} {xs : List ByteArray} (hx : n ≤ 1000000) (h1 : Su w a n c xs) (h2 : Su w b n d xs) : Calls Try.prog 30 #[.slice a n c, .slice b n d] w fun e w' => e = .returned (.bool true) ∧ w.grownBy w' none := by
  have ha : ∀ k, k < n → ∃ b off, a = some ⟨b, off, none⟩ ∧ w.cell? ⟨b, off + k, none⟩ = some (.string (xs.getD k ⟨#[]⟩)) := fun k hk => by
    obtain ⟨b, off, e, h⟩ := h1.get hk
    exact ⟨b, off, e, by rw [h]; simp [List.getD, List.getElem?_eq_getElem (show k < xs.length by rw [h1.n]; exact hk)]⟩
  have hb : ∀ k, k < n → ∃ b' off, b = some ⟨b', off, none⟩ ∧ w.cell? ⟨b', off + k, none⟩ = some (.string (xs.getD k ⟨#[]⟩)) := fun k hk => by
    obtain ⟨b, off, e, h⟩ := h2.get hk
    exact ⟨b, off, e, by rw [h]; simp [List.getD, List.getElem?_eq_getElem (show k < xs.length by rw [h1.n]; exact hk)]⟩
  clear h1 h2
  go_enter Try.func30, Try.ntmps30
  go_wp2
  go_loopw [5] (fun i wr => ∃ k j : Nat, k ≤ n ∧ i = .int .i64 k ∧ wr = w.drewN j) (fun i _ => n - (intOf i).toNat)
  case atStart => exact ⟨0, 0, Nat.zero_le _, rfl, (World.drewN_zero w).symm⟩
  case round =>
    obtain ⟨k, j, hk, rfl, rfl⟩ := hrel
    by_cases hlt : k < n
    · obtain ⟨b1, o1, rfl, c1⟩ := ha k hlt
      obtain ⟨b2, o2, rfl, c2⟩ := hb k hlt
      obtain ⟨x, hxx⟩ : ∃ x, x = xs.getD k ⟨#[]⟩ := ⟨_, rfl⟩
      rw [← hxx] at c1 c2
      have hki : (k : Int) < (n : Int) := by omega
      clear ha hb hxx
      go_wp2
      go_quiet (fail)
      go_wp2
      go_roundw
      case rel => exact ⟨k + 1, _, by omega, by go_num, rfl⟩
      case measure => simp [intOf]; omega
    · go_wp2
      go_ret
      exact ⟨rfl, rfl, rfl, rfl, Nat.le_refl _, fun _ _ _ => rfl⟩
end
end Go.Proofs.Ytegaljpllcgaaaa

namespace Go.Proofs.Ytegaljpllcgaaaa
set_option linter.unusedVariables false
open Go.RowKit

theorem fmC_size (f : Fv) (ta : Option Addr) (tc : Nat) (ka : Option Addr) (kc : Nat) : (Try.prog.info? 29).map (·.size) = some (fmC f ta tc ka kc).size := by
  have h : (Try.prog.info? 29).map (·.size) = some 10 := by kernel_rfl
  exact h
theorem fmC_one (f : Fv) (ta : Option Addr) (tc : Nat) (ka : Option Addr) (kc : Nat) : (fmC f ta tc ka kc).all (·.oneCell') = true := by simp [fmC, Value.oneCell']
section
variable {w : World} {r : Qv} {ca ta ka : Option Addr} {cc tc kc : Nat} {t : TypeId} {p : Nat}
theorem rq_at (h : w.heap[p]? = some (.cells (rqC r ca cc ta tc ka kc) t (0, 0))) (j : Nat) (v : Value) (hv : (rqC r ca cc ta tc ka kc)[j]? = some v) : w.cell? ⟨p, j, none⟩ = some v := by
  unfold World.cell?
  rw [h]
  exact hv
theorem rq_form (h : w.heap[p]? = some (.cells (rqC r ca cc ta tc ka kc) t (0, 0))) : w.rangeAt p 1 (fmC r.form ta tc ka kc).toList := fun j v hv => by
  have hj : j < 10 := (List.getElem?_eq_some_iff.1 hv).1
  refine rq_at h _ v ?_
  match j, hj with
  | 0, _ | 1, _ | 2, _ | 3, _ | 4, _ | 5, _ | 6, _ | 7, _ | 8, _ | 9, _ => exact hv
theorem fm_at {f : Fv} (h : w.heap[p]? = some (.cells (fmC f ta tc ka kc) t (0, 0))) (j : Nat) (v : Value) (hv : (fmC f ta tc ka kc)[j]? = some v) : w.cell? ⟨p, j, none⟩ = some v := by
  unfold World.cell?
  rw [h]
  exact hv
theorem fm_cells {f : Fv} (h : w.heap[p]? = some (.cells (fmC f ta tc ka kc) t (0, 0))) : w.cell? ⟨p, 0, none⟩ = some (.int .i64 f.dia) ∧ w.cell? ⟨p, 1, none⟩ = some (.string f.verb) ∧ w.cell? ⟨p, 2, none⟩ = some (.int .i64 f.code) ∧ w.cell? ⟨p, 3, none⟩ = some (.int .u32 f.opq) ∧ w.cell? ⟨p, 4, none⟩ = some (.bool f.quiet) ∧ w.cell? ⟨p, 5, none⟩ = some (.bool f.wcas) ∧ w.cell? ⟨p, 6, none⟩ = some (.string f.flags) ∧ w.cell? ⟨p, 7, none⟩ = some (.slice ta f.toks.length tc) ∧ w.cell? ⟨p, 8, none⟩ = some (.slice ka f.keys.length kc) ∧ w.cell? ⟨p, 9, none⟩ = some (.bool f.b64) :=
  ⟨fm_at h 0 _ rfl, fm_at h 1 _ rfl, fm_at h 2 _ rfl, fm_at h 3 _ rfl, fm_at h 4 _ rfl, fm_at h 5 _ rfl, fm_at h 6 _ rfl, fm_at h 7 _ rfl, fm_at h 8 _ rfl, fm_at h 9 _ rfl⟩
end
/-- The four blocks of Requests. -/
structure RBox (w : World) (r : Qv) (ca ta ka cb tb kb : Option Addr) (cc tc kc cd td kd : Nat) (W : World) : Prop where
  gr : w.grownBy W none
  a : W.heap[w.heap.size]? = some (.cells (rqC r ca cc ta tc ka kc) 31 (0, 0))
  b : W.heap[w.heap.size + 1]? = some (.cells (rqC r cb cd tb td kb kd) 31 (0, 0))
  f : W.heap[w.heap.size + 1 + 1]? = some (.cells (fmC r.form ta tc ka kc) 29 (0, 0))
  g : W.heap[w.heap.size + 1 + 1 + 1]? = some (.cells (fmC r.form tb td kb kd) 29 (0, 0))
theorem RBox.on {w W W' : World} {r : Qv} {ca ta ka cb tb kb : Option Addr} {cc tc kc cd td kd : Nat} (h : RBox w r ca ta ka cb tb kb cc tc kc cd td kd W) (hg : W.grownBy W' none) : RBox w r ca ta ka cb tb kb cc tc kc cd td kd W' := by
  have lt : ∀ {b : Nat} {o : Obj}, W.heap[b]? = some o → b < W.heap.size := fun h => (Array.getElem?_eq_some_iff.1 h).1
  exact ⟨gr_trans h.gr hg, (hg.block _ (lt h.a) (by simp)).trans h.a, (hg.block _ (lt h.b) (by simp)).trans h.b, (hg.block _ (lt h.f) (by simp)).trans h.f, (hg.block _ (lt h.g) (by simp)).trans h.g⟩
theorem rbox (w : World) (r : Qv) (ca ta ka cb tb kb : Option Addr) (cc tc kc cd td kd : Nat) : RBox w r ca ta ka cb tb kb cc tc kc cd td kd ((((w.alloc (.cells (rqC r ca cc ta tc ka kc) 31)).alloc (.cells (rqC r cb cd tb td kb kd) 31)).alloc (.cells (fmC r.form ta tc ka kc) 29)).alloc (.cells (fmC r.form tb td kb kd) 29)) := by
  have H := ((((Law.start w).box (.cells (rqC r ca cc ta tc ka kc) 31)).box (.cells (rqC r cb cd tb td kb kd) 31)).box (.cells (fmC r.form ta tc ka kc) 29)).box (.cells (fmC r.form tb td kb kd) 29)
  simp only [World.size_alloc] at H
  exact ⟨gr_of_below H.below, H.q.2.1.2.1.2.1.1, H.q.2.1.2.1.1, H.q.2.1.1, H.q.1⟩
section
variable {w : World} {r : Qv} {ca ta ka cb tb kb : Option Addr} {cc tc kc cd td kd : Nat}
set_option maxRecDepth 100000 in
set_option maxHeartbeats 4000000 in
theorem requests_eq (h1 : QAt w r ca cc ta tc ka kc) (h2 : QAt w r cb cd tb td kb kd) (hn : r.cmds.length ≤ 1000000) (hk : r.form.keys.length ≤ 1000000) (ht : r.form.toks.length ≤ 1000000) : Calls Try.prog 17 #[.agg (rqC r ca cc ta tc ka kc), .agg (rqC r cb cd tb td kb kd)] w fun e w' => e = .returned (.bool true) ∧ w.grownBy w' none := by
  have hR := rbox w r ca ta ka cb tb kb cc tc kc cd td kd
  obtain ⟨W2, hW2⟩ : ∃ W2, W2 = (w.alloc (.cells (rqC r ca cc ta tc ka kc) 31)).alloc (.cells (rqC r cb cd tb td kb kd) 31) := ⟨_, rfl⟩
  obtain ⟨W3, hW3⟩ : ∃ W3, W3 = W2.alloc (.cells (fmC r.form ta tc ka kc) 29) := ⟨_, rfl⟩
  obtain ⟨W4, hW4⟩ : ∃ W4, W4 = W3.alloc (.cells (fmC r.form tb td kb kd) 29) := ⟨_, rfl⟩
  have z2 : W2.heap.size = w.heap.size + 1 + 1 := by rw [hW2, World.size_alloc, World.size_alloc]
  have z3 : W3.heap.size = w.heap.size + 1 + 1 + 1 := by rw [hW3, World.size_alloc, z2]
  rw [← hW2, ← hW3, ← hW4] at hR
  have hA2 : W2.heap[w.heap.size]? = some (.cells (rqC r ca cc ta tc ka kc) 31 (0, 0)) := by rw [hW2, Below.heap_alloc _ _ _ (by rw [World.size_alloc]; omega)]; exact World.alloc_heap_new _ _
  have hB3 : W3.heap[w.heap.size + 1]? = some (.cells (rqC r cb cd tb td kb kd) 31 (0, 0)) := by
    rw [hW3, Below.heap_alloc _ _ _ (by omega), hW2]
    have := World.alloc_heap_new (w.alloc (.cells (rqC r ca cc ta tc ka kc) 31)) (.cells (rqC r cb cd tb td kb kd) 31)
    rw [World.size_alloc] at this
    exact this
  have ra := rq_form hA2
  have rb := rq_form hB3
  have S3 : Hid (∀ old, (W2.alloc (.cells old 29)).setRow (w.heap.size + 1 + 1) (fmC r.form ta tc ka kc) = W3) := fun old => by rw [hW3, ← z2]; exact setRow_alloc _ _ _ _
  have S4 : Hid (∀ old, (W3.alloc (.cells old 29)).setRow (w.heap.size + 1 + 1 + 1) (fmC r.form tb td kb kd) = W4) := fun old => by rw [hW4, ← z3]; exact setRow_alloc _ _ _ _
  have N3 : Hid (∀ old, (W2.alloc (.cells old 29)).heap[w.heap.size + 1 + 1]? = some (.cells old 29 (0, 0))) := fun old => by rw [← z2]; exact World.alloc_heap_new _ _
  have N4 : Hid (∀ old, (W3.alloc (.cells old 29)).heap[w.heap.size + 1 + 1 + 1]? = some (.cells old 29 (0, 0))) := fun old => by rw [← z3]; exact World.alloc_heap_new _ _
  have ZW : Hid (W2.heap.size = w.heap.size + 1 + 1 ∧ W3.heap.size = w.heap.size + 1 + 1 + 1) := ⟨z2, z3⟩
  have a0 := rq_at hR.a 0 _ rfl
  have b0 := rq_at hR.b 0 _ rfl
  obtain ⟨f0, f1, f2, f3, f4, f5, f6, f7, f8, f9⟩ := fm_cells hR.f
  obtain ⟨g0, g1, g2, g3, g4, g5, g6, g7, g8, g9⟩ := fm_cells hR.g
  have HR := hide hR
  have H1 := hide h1
  have H2 := hide h2
  have HT := hide (fun (W : World) (hg : w.grownBy W none) => texts_eq ht (h1.toks.on (below_gr hg)) (h2.toks.on (below_gr hg)))
  have HK := hide (fun (W : World) (hg : w.grownBy W none) => texts_eq hk (h1.keys.on (below_gr hg)) (h2.keys.on (below_gr hg)))
  obtain ⟨n, hnn⟩ : ∃ n, r.cmds.length = n := ⟨_, rfl⟩
  have HN := hide hnn
  rw [hnn] at hn
  have a1 : W4.cell? ⟨w.heap.size, 0, none⟩ = some (.slice ca n cc) := by rw [← hnn]; exact a0
  have b1 : W4.cell? ⟨w.heap.size + 1, 0, none⟩ = some (.slice cb n cd) := by rw [← hnn]; exact b0
  clear hR h1 h2 hA2 hB3 hW3 hW4 ht hk hnn a0 b0
  go_enter Try.func17, Try.ntmps17
  go_wp2_with (first
    | (have t1 := hW2; clear t1; rw [← hW2]; refine wpList_load_mid rfl 29 _ rfl w.heap.size 1 rfl (fmC r.form ta tc ka kc).toList _ ra Try.underlying29 rfl (by rw [fmC_size r.form ta tc ka kc, Array.length_toList]) ?_; clear hW2)
    | (refine wpList_load_mid rfl 29 _ rfl (w.heap.size + 1) 1 rfl (fmC r.form tb td kb kd).toList _ rb Try.underlying29 rfl (by rw [fmC_size r.form tb td kb kd, Array.length_toList]) ?_)
    | (refine wpList_store_row rfl 29 _ _ rfl (w.heap.size + 1 + 1) (fmC r.form ta tc ka kc) rfl rfl _ _ (N3.out _) (fmC_size _ _ _ _ _) rfl (fmC_one _ _ _ _ _) ?_; rw [S3.out])
    | (refine wpList_store_row rfl 29 _ _ rfl (w.heap.size + 1 + 1 + 1) (fmC r.form tb td kb kd) rfl rfl _ _ (N4.out _) (fmC_size _ _ _ _ _) rfl (fmC_one _ _ _ _ _) ?_; rw [S4.out]))
  clear ra rb S3 S4 N3 N4 ZW z2 z3 f0 f1 f2 f3 f4 f5 f6 f7 f8 f9 g0 g1 g2 g3 g4 g5 g6 g7 g8 g9 a1 b1
  go_loopw [7] (fun i wr => ∃ k : Nat, k ≤ n ∧ i = .int .i64 k ∧ Hid (RBox w r ca ta ka cb tb kb cc tc kc cd td kd wr)) (fun i _ => n - (intOf i).toNat)
  case atStart => exact ⟨0, Nat.zero_le _, rfl, HR.out⟩
  case round =>
    obtain ⟨k, hk, rfl, RB⟩ := hrel
    have a1 : wr.cell? ⟨w.heap.size, 0, none⟩ = some (.slice ca n cc) := by rw [← HN.out]; exact rq_at RB.out.a 0 _ rfl
    have b1 : wr.cell? ⟨w.heap.size + 1, 0, none⟩ = some (.slice cb n cd) := by rw [← HN.out]; exact rq_at RB.out.b 0 _ rfl
    by_cases hlt : k < n
    · have hki : (k : Int) < (n : Int) := by omega
      have e1 : wrap64 ((k : Int) + 1) = (k : Int) + 1 := by unfold wrap64; omega
      obtain ⟨xb, xo, rfl, va, vc, x1, x2⟩ := (H1.out.cmds.on (below_gr RB.out.gr)).get (i := k) (by rw [HN.out]; exact hlt)
      obtain ⟨yb, yo, rfl, vb, vd, y1, y2⟩ := (H2.out.cmds.on (below_gr RB.out.gr)).get (i := k) (by rw [HN.out]; exact hlt)
      generalize r.cmds[k]'(by rw [HN.out]; exact hlt) = c at *
      have HC := hide (cmds_eq x2.drew y2.drew)
      have gd : Hid (wr.grownBy wr.drew none) := ⟨rfl, rfl, rfl, Nat.le_refl _, fun _ _ _ => rfl⟩
      have S0 : wr.drew.cell? ⟨w.heap.size, 0, none⟩ = some (.slice (some ⟨xb, xo, none⟩) n cc) ∧ wr.drew.cell? ⟨w.heap.size + 1, 0, none⟩ = some (.slice (some ⟨yb, yo, none⟩) n cd) ∧ wr.drew.rangeAt xb (xo + k * 10) (cmC c va vc).toList ∧ wr.drew.rangeAt yb (yo + k * 10) (cmC c vb vd).toList := ⟨a1, b1, x1, y1⟩
      clear x1 x2 y1 y2
      go_wp2
      refine region_htail (S := fun W' => W'.cell? ⟨w.heap.size, 0, none⟩ = some (.slice (some ⟨xb, xo, none⟩) n cc) ∧ W'.cell? ⟨w.heap.size + 1, 0, none⟩ = some (.slice (some ⟨yb, yo, none⟩) n cd) ∧ W'.rangeAt xb (xo + k * 10) (cmC c va vc).toList ∧ W'.rangeAt yb (yo + k * 10) (cmC c vb vd).toList) 10 (by kernel_rfl) (by simp) (by kernel_rfl) ?_
      simp only [List.take_succ_cons, List.take_zero, List.drop_succ_cons, List.drop_zero]
      refine take_at 0 85 (v := .pointer (some ⟨w.heap.size, 0, none⟩)) rfl rfl (by kernel_rfl) (by kernel_rfl) (by kernel_rfl) (fun _ _ _ h => h) (Or.inl ⟨by rfl, fun W hW => by obtain ⟨s1, s2, s3, s4⟩ := hW; go_simp⟩) S0 ?_
      simp only [Act.put, List.setIfInBounds_toArray, List.set_cons_zero, List.set_cons_succ]
      refine take_at 1 86 (v := .slice (some ⟨xb, xo, none⟩) n cc) rfl rfl (by kernel_rfl) (by kernel_rfl) (by kernel_rfl) (fun _ _ _ h => h) (Or.inl ⟨by rfl, fun W hW => by obtain ⟨s1, s2, s3, s4⟩ := hW; go_simp⟩) S0 ?_
      simp only [Act.put, List.setIfInBounds_toArray, List.set_cons_zero, List.set_cons_succ]
      refine take_at 2 87 (v := .int .i64 (k : Int)) rfl rfl (by kernel_rfl) (by kernel_rfl) (by kernel_rfl) (fun _ _ _ h => h) (Or.inl ⟨by rfl, fun W hW => by obtain ⟨s1, s2, s3, s4⟩ := hW; go_simp⟩) S0 ?_
      simp only [Act.put, List.setIfInBounds_toArray, List.set_cons_zero, List.set_cons_succ]
      refine take_at 3 88 (v := .pointer (some ⟨xb, xo + k * 10, none⟩)) rfl rfl (by kernel_rfl) (by kernel_rfl) (by kernel_rfl) (fun _ _ _ h => h) (Or.inl ⟨by rfl, fun W hW => by obtain ⟨s1, s2, s3, s4⟩ := hW; go_simp⟩) S0 ?_
      simp only [Act.put, List.setIfInBounds_toArray, List.set_cons_zero, List.set_cons_succ]
      refine take_at 4 89 (v := .agg (cmC c va vc)) rfl rfl (by kernel_rfl) (by kernel_rfl) (by kernel_rfl) (fun _ _ _ h => h) (yieldsIf_load_mid (by rfl) 39 _ rfl xb (xo + k * 10) rfl (cmC c va vc).toList _ (fun W hW => hW.2.2.1) Try.underlying39 rfl (by rw [cmd_size c va vc, Array.length_toList])) S0 ?_
      simp only [Act.put, List.setIfInBounds_toArray, List.set_cons_zero, List.set_cons_succ]
      refine take_at 5 90 (v := .pointer (some ⟨w.heap.size + 1, 0, none⟩)) rfl rfl (by kernel_rfl) (by kernel_rfl) (by kernel_rfl) (fun _ _ _ h => h) (Or.inl ⟨by rfl, fun W hW => by obtain ⟨s1, s2, s3, s4⟩ := hW; go_simp⟩) S0 ?_
      simp only [Act.put, List.setIfInBounds_toArray, List.set_cons_zero, List.set_cons_succ]
      refine take_at 6 91 (v := .slice (some ⟨yb, yo, none⟩) n cd) rfl rfl (by kernel_rfl) (by kernel_rfl) (by kernel_rfl) (fun _ _ _ h => h) (Or.inl ⟨by rfl, fun W hW => by obtain ⟨s1, s2, s3, s4⟩ := hW; go_simp⟩) S0 ?_
      simp only [Act.put, List.setIfInBounds_toArray, List.set_cons_zero, List.set_cons_succ]
      refine take_at 7 92 (v := .int .i64 (k : Int)) rfl rfl (by kernel_rfl) (by kernel_rfl) (by kernel_rfl) (fun _ _ _ h => h) (Or.inl ⟨by rfl, fun W hW => by obtain ⟨s1, s2, s3, s4⟩ := hW; go_simp⟩) S0 ?_
      simp only [Act.put, List.setIfInBounds_toArray, List.set_cons_zero, List.set_cons_succ]
      refine take_at 8 93 (v := .pointer (some ⟨yb, yo + k * 10, none⟩)) rfl rfl (by kernel_rfl) (by kernel_rfl) (by kernel_rfl) (fun _ _ _ h => h) (Or.inl ⟨by rfl, fun W hW => by obtain ⟨s1, s2, s3, s4⟩ := hW; go_simp⟩) S0 ?_
      simp only [Act.put, List.setIfInBounds_toArray, List.set_cons_zero, List.set_cons_succ]
      refine take_at 9 94 (v := .agg (cmC c vb vd)) rfl rfl (by kernel_rfl) (by kernel_rfl) (by kernel_rfl) (fun _ _ _ h => h) (yieldsIf_load_mid (by rfl) 39 _ rfl yb (yo + k * 10) rfl (cmC c vb vd).toList _ (fun W hW => hW.2.2.2) Try.underlying39 rfl (by rw [cmd_size c vb vd, Array.length_toList])) S0 ?_
      simp only [Act.put, List.setIfInBounds_toArray, List.set_cons_zero, List.set_cons_succ]
      refine wpAnyH_done (by kernel_rfl) ?_ _
      change wpList _ _ _ _ _ _
      clear S0 a1 b1
      go_wp2_with (go_at_call 29; refine HC.out.mono ?_; rintro e w6 ⟨rfl, g6⟩; have R6 := hide (RB.out.on (gr_trans gd.out g6)); clear g6)
      go_roundw
      case rel => exact ⟨k + 1, by omega, by go_num, R6.out⟩
      case measure => simp [intOf]; omega
    · obtain rfl : k = n := by omega
      have hki : ¬ (k : Int) < (k : Int) := by omega
      have f7 := (fm_cells RB.out.f).2.2.2.2.2.2.2.1
      have f8 := (fm_cells RB.out.f).2.2.2.2.2.2.2.2.1
      have g7 := (fm_cells RB.out.g).2.2.2.2.2.2.2.1
      have g8 := (fm_cells RB.out.g).2.2.2.2.2.2.2.2.1
      have N0 : Hid (w = w) := rfl
      have HK2 := hide (fun (W : World) (hg : wr.grownBy W none) => And.intro (HK.out W (gr_trans RB.out.gr hg)) (And.intro (fm_cells (RB.out.on hg).f).2.2.2.2.2.2.2.2.1 (fm_cells (RB.out.on hg).g).2.2.2.2.2.2.2.2.1))
      have GB := hide RB.out.gr
      go_wp2_with (first
        | (go_at_call 30; have t1 := N0; clear t1; refine (HT.out _ GB.out).mono ?_; rintro e w7 ⟨rfl, q7⟩; clear N0 f7 f8 g7 g8 a1 b1; obtain ⟨K7, f8, g8⟩ := HK2.out w7 q7; replace K7 := hide K7; have N1 : Hid (w = w) := rfl; replace q7 := hide (gr_trans GB.out q7); clear HK2)
        | (go_at_call 30; have t1 := N1; clear t1; refine K7.out.mono ?_; rintro e w8 ⟨rfl, q8⟩; clear N1; replace q8 := hide (gr_trans q7.out q8)))
      go_ret
      exact ⟨rfl, q8.out⟩
end
end Go.Proofs.Ytegaljpllcgaaaa

namespace Go.Proofs.Ytegaljpllcgaaaa
set_option linter.unusedVariables false
open Go.RowKit

section
variable {w : World} {s : Sv} {ca ta ka : Option Addr} {cc tc kc : Nat} {t : TypeId} {p : Nat}
theorem st_at (h : w.heap[p]? = some (.cells (stC s ca cc ta tc ka kc) t (0, 0))) (j : Nat) (v : Value) (hv : (stC s ca cc ta tc ka kc)[j]? = some v) : w.cell? ⟨p, j, none⟩ = some v := by
  unfold World.cell?
  rw [h]
  exact hv
theorem st_req (h : w.heap[p]? = some (.cells (stC s ca cc ta tc ka kc) t (0, 0))) : w.rangeAt p 0 (rqC s.req ca cc ta tc ka kc).toList := fun j v hv => by
  have hj : j < 11 := (List.getElem?_eq_some_iff.1 hv).1
  refine st_at h _ v ?_
  match j, hj with
  | 0, _ | 1, _ | 2, _ | 3, _ | 4, _ | 5, _ | 6, _ | 7, _ | 8, _ | 9, _ | 10, _ => exact hv
theorem st_cells (h : w.heap[p]? = some (.cells (stC s ca cc ta tc ka kc) t (0, 0))) : w.cell? ⟨p, 11, none⟩ = some (.string s.reply) ∧ w.cell? ⟨p, 12, none⟩ = some (.int .i64 s.used) ∧ w.cell? ⟨p, 13, none⟩ = some (.int .i64 s.skip) ∧ w.cell? ⟨p, 14, none⟩ = some (.bool s.line) ∧ w.cell? ⟨p, 15, none⟩ = some (.int .i64 s.e) :=
  ⟨st_at h 11 _ rfl, st_at h 12 _ rfl, st_at h 13 _ rfl, st_at h 14 _ rfl, st_at h 15 _ rfl⟩
end
/-- Not too many of anything. -/
structure Few1 (r : Qv) : Prop where
  cmds : r.cmds.length ≤ 1000000
  keys : r.form.keys.length ≤ 1000000
  toks : r.form.toks.length ≤ 1000000
section
variable {w : World}
set_option maxRecDepth 100000 in
set_option maxHeartbeats 4000000 in
theorem steps_eq {s : Sv} {cs ds : Array Value} (hf : Few1 s.req) (h1 : StepAt w s cs) (h2 : StepAt w s ds) : Calls Try.prog 10 #[.agg cs, .agg ds] w fun e w' => e = .returned (.bool true) ∧ w.grownBy w' none := by
  obtain ⟨ca, cc, ta, tc, ka, kc, rfl, q1⟩ := h1
  obtain ⟨cb, cd, tb, td, kb, kd, rfl, q2⟩ := h2
  have H := ((Law.start w).box (.cells (stC s ca cc ta tc ka kc) 34)).box (.cells (stC s cb cd tb td kb kd) 34)
  simp only [World.size_alloc] at H
  obtain ⟨W2, hW2⟩ : ∃ W2, W2 = (w.alloc (.cells (stC s ca cc ta tc ka kc) 34)).alloc (.cells (stC s cb cd tb td kb kd) 34) := ⟨_, rfl⟩
  rw [← hW2] at H
  have ra := st_req H.q.2.1.1
  have rb := st_req H.q.1
  have gw : w.grownBy W2 none := gr_of_below H.below
  have HC := hide (requests_eq (q1.on H.below) (q2.on H.below) hf.cmds hf.keys hf.toks)
  have HX := hide (fun (W : World) (hg : W2.grownBy W none) => And.intro (st_cells (H.step hg).q.2.1.1) (st_cells (H.step hg).q.1))
  have HG := hide gw
  clear H q1 q2 gw hf
  go_enter Try.func10, Try.ntmps10
  go_wp2_with (first
    | (have t1 := hW2; clear t1; rw [← hW2]; refine wpList_load_mid rfl 31 _ rfl w.heap.size 0 rfl (rqC s.req ca cc ta tc ka kc).toList _ ra Try.underlying31 rfl (by rw [req_size s.req ca ta ka cc tc kc, Array.length_toList]) ?_; clear hW2)
    | (refine wpList_load_mid rfl 31 _ rfl (w.heap.size + 1) 0 rfl (rqC s.req cb cd tb td kb kd).toList _ rb Try.underlying31 rfl (by rw [req_size s.req cb tb kb cd td kd, Array.length_toList]) ?_)
    | (go_at_call 17; refine HC.out.mono ?_; rintro e w3 ⟨rfl, g3⟩; obtain ⟨⟨x1, x2, x3, x4, x5⟩, y1, y2, y3, y4, y5⟩ := HX.out w3 g3; replace g3 := hide (gr_trans HG.out g3); clear ra rb))
  go_ret
  exact ⟨by first | rfl | (simp; done), g3.out⟩
set_option maxRecDepth 100000 in
set_option maxHeartbeats 4000000 in
theorem steps_bool {s u : Sv} {cs ds : Array Value} (h1 : StepAt w s cs) (h2 : StepAt w u ds) (hq : ∀ (W : World) (ca ta ka cb tb kb : Option Addr) (cc tc kc cd td kd : Nat), QAt W s.req ca cc ta tc ka kc → QAt W u.req cb cd tb td kb kd → Calls Try.prog 17 #[.agg (rqC s.req ca cc ta tc ka kc), .agg (rqC u.req cb cd tb td kb kd)] W fun e w' => (∃ b, e = .returned (.bool b)) ∧ W.grownBy w' none) : Calls Try.prog 10 #[.agg cs, .agg ds] w fun e w' => (∃ b, e = .returned (.bool b)) ∧ w.grownBy w' none := by
  obtain ⟨ca, cc, ta, tc, ka, kc, rfl, q1⟩ := h1
  obtain ⟨cb, cd, tb, td, kb, kd, rfl, q2⟩ := h2
  have H := ((Law.start w).box (.cells (stC s ca cc ta tc ka kc) 34)).box (.cells (stC u cb cd tb td kb kd) 34)
  simp only [World.size_alloc] at H
  obtain ⟨W2, hW2⟩ : ∃ W2, W2 = (w.alloc (.cells (stC s ca cc ta tc ka kc) 34)).alloc (.cells (stC u cb cd tb td kb kd) 34) := ⟨_, rfl⟩
  rw [← hW2] at H
  have ra := st_req H.q.2.1.1
  have rb := st_req H.q.1
  have gw : w.grownBy W2 none := gr_of_below H.below
  have HC := hide (hq W2 ca ta ka cb tb kb cc tc kc cd td kd (q1.on H.below) (q2.on H.below))
  have HX := hide (fun (W : World) (hg : W2.grownBy W none) => And.intro (st_cells (H.step hg).q.2.1.1) (st_cells (H.step hg).q.1))
  have HG := hide gw
  clear H q1 q2 gw hq
  go_enter Try.func10, Try.ntmps10
  go_wp2_with (first
    | (have t1 := hW2; clear t1; rw [← hW2]; refine wpList_load_mid rfl 31 _ rfl w.heap.size 0 rfl (rqC s.req ca cc ta tc ka kc).toList _ ra Try.underlying31 rfl (by rw [req_size s.req ca ta ka cc tc kc, Array.length_toList]) ?_; clear hW2)
    | (refine wpList_load_mid rfl 31 _ rfl (w.heap.size + 1) 0 rfl (rqC u.req cb cd tb td kb kd).toList _ rb Try.underlying31 rfl (by rw [req_size u.req cb tb kb cd td kd, Array.length_toList]) ?_)
    | (go_at_call 17; refine HC.out.mono ?_; rintro e w3 ⟨⟨b, rfl⟩, g3⟩; obtain ⟨⟨x1, x2, x3, x4, x5⟩, y1, y2, y3, y4, y5⟩ := HX.out w3 g3; replace g3 := hide (gr_trans HG.out g3); clear ra rb))
  all_goals
    go_ret
    exact ⟨⟨_, rfl⟩, g3.out⟩
end
end Go.Proofs.Ytegaljpllcgaaaa

namespace Go.Proofs.Ytegaljpllcgaaaa
set_option linter.unusedVariables false
open Go.RowKit

section
variable {w : World} {r u : Qv} {ca ta ka cb tb kb : Option Addr} {cc tc kc cd td kd : Nat}
set_option maxRecDepth 100000 in
set_option maxHeartbeats 4000000 in
theorem requests_ne (hn : r.cmds.length ≠ u.cmds.length) : Calls Try.prog 17 #[.agg (rqC r ca cc ta tc ka kc), .agg (rqC u cb cd tb td kb kd)] w fun e w' => e = .returned (.bool false) ∧ w.grownBy w' none := by
  have H := ((((Law.start w).box (.cells (rqC r ca cc ta tc ka kc) 31)).box (.cells (rqC u cb cd tb td kb kd) 31)).box (.cells (fmC r.form ta tc ka kc) 29)).box (.cells (fmC u.form tb td kb kd) 29)
  simp only [World.size_alloc] at H
  obtain ⟨W2, hW2⟩ : ∃ W2, W2 = (w.alloc (.cells (rqC r ca cc ta tc ka kc) 31)).alloc (.cells (rqC u cb cd tb td kb kd) 31) := ⟨_, rfl⟩
  obtain ⟨W3, hW3⟩ : ∃ W3, W3 = W2.alloc (.cells (fmC r.form ta tc ka kc) 29) := ⟨_, rfl⟩
  obtain ⟨W4, hW4⟩ : ∃ W4, W4 = W3.alloc (.cells (fmC u.form tb td kb kd) 29) := ⟨_, rfl⟩
  have z2 : W2.heap.size = w.heap.size + 1 + 1 := by rw [hW2, World.size_alloc, World.size_alloc]
  have z3 : W3.heap.size = w.heap.size + 1 + 1 + 1 := by rw [hW3, World.size_alloc, z2]
  rw [← hW2, ← hW3, ← hW4] at H
  have hA2 : W2.heap[w.heap.size]? = some (.cells (rqC r ca cc ta tc ka kc) 31 (0, 0)) := by rw [hW2, Below.heap_alloc _ _ _ (by rw [World.size_alloc]; omega)]; exact World.alloc_heap_new _ _
  have hB3 : W3.heap[w.heap.size + 1]? = some (.cells (rqC u cb cd tb td kb kd) 31 (0, 0)) := by
    rw [hW3, Below.heap_alloc _ _ _ (by omega), hW2]
    have := World.alloc_heap_new (w.alloc (.cells (rqC r ca cc ta tc ka kc) 31)) (.cells (rqC u cb cd tb td kb kd) 31)
    rw [World.size_alloc] at this
    exact this
  have ra := rq_form hA2
  have rb := rq_form hB3
  have S3 : Hid (∀ old, (W2.alloc (.cells old 29)).setRow (w.heap.size + 1 + 1) (fmC r.form ta tc ka kc) = W3) := fun old => by rw [hW3, ← z2]; exact setRow_alloc _ _ _ _
  have S4 : Hid (∀ old, (W3.alloc (.cells old 29)).setRow (w.heap.size + 1 + 1 + 1) (fmC u.form tb td kb kd) = W4) := fun old => by rw [hW4, ← z3]; exact setRow_alloc _ _ _ _
  have N3 : Hid (∀ old, (W2.alloc (.cells old 29)).heap[w.heap.size + 1 + 1]? = some (.cells old 29 (0, 0))) := fun old => by rw [← z2]; exact World.alloc_heap_new _ _
  have N4 : Hid (∀ old, (W3.alloc (.cells old 29)).heap[w.heap.size + 1 + 1 + 1]? = some (.cells old 29 (0, 0))) := fun old => by rw [← z3]; exact World.alloc_heap_new _ _
  have a0 := rq_at H.q.2.1.2.1.2.1.1 0 _ rfl
  have b0 := rq_at H.q.2.1.2.1.1 0 _ rfl
  have HG := hide (gr_of_below H.below)
  obtain ⟨n, hnn⟩ : ∃ n, r.cmds.length = n := ⟨_, rfl⟩
  obtain ⟨m, hmm⟩ : ∃ m, u.cmds.length = m := ⟨_, rfl⟩
  have a1 : W4.cell? ⟨w.heap.size, 0, none⟩ = some (.slice ca n cc) := by rw [← hnn]; exact a0
  have b1 : W4.cell? ⟨w.heap.size + 1, 0, none⟩ = some (.slice cb m cd) := by rw [← hmm]; exact b0
  have hne : ¬ (n : Int) = (m : Int) := by omega
  clear H hA2 hB3 hW3 hW4 a0 b0 hn hnn hmm
  go_enter Try.func17, Try.ntmps17
  go_wp2_with (first
    | (have t1 := hW2; clear t1; rw [← hW2]; refine wpList_load_mid rfl 29 _ rfl w.heap.size 1 rfl (fmC r.form ta tc ka kc).toList _ ra Try.underlying29 rfl (by rw [fmC_size r.form ta tc ka kc, Array.length_toList]) ?_; clear hW2)
    | (refine wpList_load_mid rfl 29 _ rfl (w.heap.size + 1) 1 rfl (fmC u.form tb td kb kd).toList _ rb Try.underlying29 rfl (by rw [fmC_size u.form tb td kb kd, Array.length_toList]) ?_)
    | (refine wpList_store_row rfl 29 _ _ rfl (w.heap.size + 1 + 1) (fmC r.form ta tc ka kc) rfl rfl _ _ (N3.out _) (fmC_size _ _ _ _ _) rfl (fmC_one _ _ _ _ _) ?_; rw [S3.out])
    | (refine wpList_store_row rfl 29 _ _ rfl (w.heap.size + 1 + 1 + 1) (fmC u.form tb td kb kd) rfl rfl _ _ (N4.out _) (fmC_size _ _ _ _ _) rfl (fmC_one _ _ _ _ _) ?_; rw [S4.out]))
  go_ret
  exact ⟨rfl, HG.out⟩
/-- A step without commands, held against any step that has commands or none at all. -/
theorem steps_some {s u : Sv} {cs ds : Array Value} (hs : s.req = noQ) (hu : u.req = noQ ∨ 0 < u.req.cmds.length) (h1 : StepAt w s cs) (h2 : StepAt w u ds) : Calls Try.prog 10 #[.agg cs, .agg ds] w fun e w' => (∃ b, e = .returned (.bool b)) ∧ w.grownBy w' none := by
  refine steps_bool h1 h2 fun W ca ta ka cb tb kb cc tc kc cd td kd q1 q2 => ?_
  rw [hs] at q1 ⊢
  rcases hu with hu | hu
  · rw [hu] at q2 ⊢
    exact (requests_eq q1 q2 (by decide) (by decide) (by decide)).mono fun e w' ⟨h, g⟩ => ⟨⟨_, h⟩, g⟩
  · exact (requests_ne (r := noQ) (u := u.req) (show (0 : Nat) ≠ u.req.cmds.length by omega)).mono fun e w' ⟨h, g⟩ => ⟨⟨_, h⟩, g⟩
end
end Go.Proofs.Ytegaljpllcgaaaa
