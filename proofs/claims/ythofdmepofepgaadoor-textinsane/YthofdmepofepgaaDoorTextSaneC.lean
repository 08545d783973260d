/- TextinSane, where a request is told. Conditions: the listed variables hold what the program's text lays. -/
import Derived.Test.YthofdmepofepgaaDoorTextSaneB
namespace Go.Proofs.YthofdmepofepgaaDoor
set_option linter.unusedVariables false
open Go.RowKit

section
variable {W : World} {a : Option Addr} {len cap : Nat} {u : List UInt8}
set_option maxRecDepth 100000 in
set_option maxHeartbeats 2000000 in
theorem sane_ok (r : Qv) (used : Int) (h3 : 0 < used) (h4 : used ≤ (len : Int)) (h5 : 0 < r.cmds.length) (h6 : r.cmds.length ≤ 16) (h7 : ∀ c ∈ r.cmds, MayC c) (hL : Laid W) (hu : Bu W a len cap u) (hl : len ≤ 5000) (hm : parseN u = ⟨r, ⟨#[]⟩, used, 0, false, 0⟩) : Calls Tryd.prog 3 #[.slice a len cap] W fun e W' => e = .returned (.bool true) ∧ Below W.heap.size W W' := by
  have hli : ¬ (5000 : Int) < (len : Int) := by omega
  have hl0 : ¬ (len : Int) < 0 := by omega
  have HP := hide (fun (w : World) (h : Below W.heap.size W w) => parse_any (hL.on h) (hu.on h) (by omega))
  rw [hm] at HP
  have hu0 : ¬ used < 0 := by omega
  have hu1 : ¬ (len : Int) < used := by omega
  have H7 := hide h7
  obtain ⟨n, HN⟩ : ∃ n, r.cmds.length = n := ⟨_, rfl⟩
  have h5i : (0 : Int) < (n : Int) := by omega
  have h6i : (n : Int) ≤ 16 := by omega
  replace HN := hide HN
  clear hm hu hl h7 h5 h6
  go_enter Tryd.func3, Tryd.ntmps3
  go_wp2_with (first
    | (go_at_call 8; refine (awake_any hL).mono ?_; rintro e w1 ⟨rfl, g1⟩; have B1 := hide (below_gr g1); clear g1)
    | (have t := B1; clear t; go_at_call 9; refine (HP.out _ B1.out).mono ?_; rintro e w2 ⟨ca, cc, ta, tc, ka, kc, rfl, q1, g2⟩; obtain ⟨W2, hW2⟩ : ∃ W2, W2 = w2.alloc (.cells (stC (⟨r, ⟨#[]⟩, used, 0, false, 0⟩ : Sv) ca cc ta tc ka kc) 33) := ⟨_, rfl⟩; obtain ⟨P1, hP1⟩ : ∃ P1, P1 = w2.heap.size := ⟨_, rfl⟩; have GA := World.grownBy_alloc w2 (.cells (stC (⟨r, ⟨#[]⟩, used, 0, false, 0⟩ : Sv) ca cc ta tc ka kc) 33) none; have Q2 := q1 _ (fun k _ hk => GA.block k hk (by simp)) GA.size; rw [← hW2] at Q2; replace Q2 := hide Q2; clear q1 GA; have BW := hide (Bt B1.out (below_gr (gr_trans g2 (World.grownBy_alloc w2 (.cells (stC (⟨r, ⟨#[]⟩, used, 0, false, 0⟩ : Sv) ca cc ta tc ka kc) 33) none)))); clear B1 HP g2; have N1 : Hid (W = W) := rfl)
    | (have t := N1; clear t; refine wpList_store_row rfl 33 _ _ rfl w2.heap.size (stC (⟨r, ⟨#[]⟩, used, 0, false, 0⟩ : Sv) ca cc ta tc ka kc) rfl rfl _ _ (World.alloc_heap_new w2 _) (step_size _ _ _ _ _ _ _) rfl (step_one _ _ _ _ _ _ _) ?_; have X1 : W2.heap[P1]? = some (.cells (stC (⟨r, ⟨#[]⟩, used, 0, false, 0⟩ : Sv) ca cc ta tc ka kc) 33 (0, 0)) := (by rw [hW2, hP1]; exact World.alloc_heap_new _ _); rw [setRow_alloc, ← hW2, ← hP1]; rw [← hW2] at BW; clear N1 hW2 hP1; have y0 : W2.cell? ⟨P1, 0, none⟩ = some (.slice ca n cc) := (by rw [← HN.out]; exact st_at X1 0 _ rfl); have y1 : W2.cell? ⟨P1, 11, none⟩ = some (.string ⟨#[]⟩) := st_at X1 11 _ rfl; have y2 : W2.cell? ⟨P1, 12, none⟩ = some (.int .i64 used) := st_at X1 12 _ rfl; have y3 : W2.cell? ⟨P1, 13, none⟩ = some (.int .i64 0) := st_at X1 13 _ rfl; have y4 : W2.cell? ⟨P1, 15, none⟩ = some (.int .i64 0) := st_at X1 15 _ rfl; replace X1 := hide X1))
  clear y0 y1 y2 y3 y4
  go_loopw [6] (fun i wr => ∃ k : Nat, k ≤ n ∧ i = .int .i64 k ∧ Hid (W2.grownBy wr none)) (fun i _ => n - (intOf i).toNat)
  case atStart => exact ⟨0, Nat.zero_le _, rfl, gr_refl _ _⟩
  case round =>
    obtain ⟨k, hk, rfl, G⟩ := hrel
    have X2 := (G.out.block P1 (Array.getElem?_eq_some_iff.1 X1.out).1 (by simp)).trans X1.out
    have y0 : wr.cell? ⟨P1, 0, none⟩ = some (.slice ca n cc) := by rw [← HN.out]; exact st_at X2 0 _ rfl
    by_cases hlt : k < n
    · have hki : (k : Int) < (n : Int) := by omega
      have e1 : wrap64 ((k : Int) + 1) = (k : Int) + 1 := by unfold wrap64; omega
      obtain ⟨xb, xo, rfl, va, vc, x1, x2⟩ := (Q2.out.cmds.on (below_gr G.out)).get (i := k) (show k < r.cmds.length by rw [HN.out]; exact hlt)
      have hM := H7.out _ (List.getElem_mem (show k < r.cmds.length by rw [HN.out]; exact hlt))
      generalize r.cmds[k]'(by rw [HN.out]; exact hlt) = c at *
      have HC := hide (fun (w : World) => may_any (w := w) (va := va) (vc := vc) hM)
      clear x2 hM X2
      go_wp2_with (first
        | (refine wpList_load_mid rfl 38 _ rfl xb (xo + k * 10) rfl (cmC c va vc).toList _ x1 Tryd.underlying38 rfl (by rw [cmd_size c va vc, Array.length_toList]) ?_)
        | (go_at_call 10; refine (HC.out _).mono ?_; rintro e w6 ⟨rfl, g6⟩; have G6 := hide (gr_trans G.out g6); clear g6))
      go_roundw
      case rel => exact ⟨k + 1, by omega, by go_num, G6.out⟩
      case measure => simp [intOf]; omega
    · obtain rfl : k = n := by omega
      have hki := int_nlt k
      have y1 : wr.cell? ⟨P1, 11, none⟩ = some (.string ⟨#[]⟩) := st_at X2 11 _ rfl
      have y2 : wr.cell? ⟨P1, 12, none⟩ = some (.int .i64 used) := st_at X2 12 _ rfl
      have y3 : wr.cell? ⟨P1, 13, none⟩ = some (.int .i64 0) := st_at X2 13 _ rfl
      have y4 : wr.cell? ⟨P1, 14, none⟩ = some (.bool false) := st_at X2 14 _ rfl
      have y5 : wr.cell? ⟨P1, 15, none⟩ = some (.int .i64 0) := st_at X2 15 _ rfl
      clear X2
      go_wp2
      go_ret
      exact ⟨by first | rfl | (simp; done), Bt BW.out (below_gr G.out)⟩
end
end Go.Proofs.YthofdmepofepgaaDoor
