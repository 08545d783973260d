/- How package textin reads the words of a verb that stores. Conditions: none. -/
import Derived.Test.YthofdmepofepgaaDoorTextI
import Derived.Test.YthofdmepofepgaaDoorRegionHT
import Derived.Great.BuildSlice
namespace Go.Proofs.YthofdmepofepgaaDoor
set_option linter.unusedVariables false
open Go.RowKit

section
variable {w : World} {n0 D : Nat} {d : Dv} {a va : Option Addr} {c vc : Nat} {t : TypeId}
theorem own_on {n0 n : Nat} {e : TypeId} {w w' : World} {v : Value} {xs : List Value} (h : w.ownsRow n0 e 1 v n xs) (hg : w.grownBy w' none) : w'.ownsRow n0 e 1 v n xs := own_same h fun k hk => hg.block k (own_at h hk).2.1 (by simp)
/-- What parts and storing answer: a new row of readings of these kinds. -/
def PartsEnd (D : Nat) (ks : List Nat) (w : World) (e : Ending) (w' : World) : Prop := ∃ v xs, e = .returned v ∧ w'.ownsRow w.heap.size 74 1 v ks.length xs ∧ RdL w' D ks xs ∧ w.grownBy w' none
set_option maxRecDepth 100000 in
set_option maxHeartbeats 2000000 in
theorem storing_any (hD : w.heap[D]? = some (.cells (drC d a c va vc) t (0, 0))) : Calls Tryd.prog 43 #[.pointer (some ⟨D, 0, none⟩)] w fun e w' => PartsEnd D (if d.verb = vb_cas then [0, 3, 1, 4, 5] else [0, 3, 1, 4]) w e w' := by
  have hlt : D < w.heap.size := (Array.getElem?_eq_some_iff.1 hD).1
  obtain ⟨ks, hks⟩ : ∃ ks, ks = if d.verb = vb_cas then [0, 3, 1, 4, 5] else [0, 3, 1, 4] := ⟨_, rfl⟩
  rw [← hks]
  replace hks := hide hks
  obtain ⟨i0, hi, hz0, hz1, hz2⟩ := info_parts info_rd
  obtain ⟨q, hq⟩ : ∃ q, q = w.heap.size := ⟨_, rfl⟩
  obtain ⟨W, hW⟩ : ∃ W, W = w.alloc (.cells #[.pointer (some ⟨D, 0, none⟩)] 69) := ⟨_, rfl⟩
  have g0 : w.grownBy W none := by rw [hW]; exact World.grownBy_alloc _ _ _
  have hWs : W.heap.size = q + 1 := by rw [hW, hq, World.size_alloc]
  have s0 : W.cell? ⟨q, 0, none⟩ = some (.pointer (some ⟨D, 0, none⟩)) := by rw [hW, hq]; exact (Boxed.new w _ _).cell
  have HD := hide hD
  go_enter Tryd.func43, Tryd.ntmps43
  go_wp2
  rw [← hW, ← hq]
  have N0 : Hid (W = W) := rfl
  have hg1 := hide g0
  have HQ := hide hq
  have hWl : q < W.heap.size := by omega
  clear hD g0
  clear hW hq
  have S0 : W.drew.cell? ⟨q, 0, none⟩ = some (.pointer (some ⟨D, 0, none⟩)) := s0
  have hdl : q < W.drew.heap.size := hWl
  have hg2 : Hid (w.grownBy W.drew none) := gr_trans hg1.out (gr_drew W)
  refine region_htail (S := fun W' => W'.cell? ⟨q, 0, none⟩ = some (.pointer (some ⟨D, 0, none⟩))) 8 (by kernel_rfl) (by simp) (by kernel_rfl) ?_
  simp only [List.take_succ_cons, List.take_zero, List.drop_succ_cons, List.drop_zero]
  clear s0 hWl N0 hg1
  generalize W.drew = W2 at *
  refine take_at 0 4 (v := .pointer (some ⟨D, 0, none⟩)) rfl rfl (by kernel_rfl) (by kernel_rfl) (by kernel_rfl) (fun _ _ _ h => h) (Or.inl ⟨by rfl, fun W hW => by go_simp⟩) S0 ?_
  simp only [Act.put, List.setIfInBounds_toArray, List.set_cons_zero, List.set_cons_succ]
  refine take_at 1 5 (v := .func (.func 44) #[.pointer (some ⟨D, 0, none⟩)] #[]) rfl rfl (by kernel_rfl) (by kernel_rfl) (by kernel_rfl) (fun _ _ _ h => h) (Or.inl ⟨by rfl, fun W hW => by go_simp⟩) S0 ?_
  simp only [Act.put, List.setIfInBounds_toArray, List.set_cons_zero, List.set_cons_succ]
  refine take_at 2 6 (v := .func (.func 49) #[] #[.pointer (some ⟨q, 0, none⟩)]) rfl rfl (by kernel_rfl) (by kernel_rfl) (by kernel_rfl) (fun _ _ _ h => h) (Or.inl ⟨by rfl, fun W hW => by go_simp⟩) S0 ?_
  simp only [Act.put, List.setIfInBounds_toArray, List.set_cons_zero, List.set_cons_succ]
  refine take_at 4 8 (v := .pointer (some ⟨D, 0, none⟩)) rfl rfl (by kernel_rfl) (by kernel_rfl) (by kernel_rfl) (fun _ _ _ h => h) (Or.inl ⟨by rfl, fun W hW => by go_simp⟩) S0 ?_
  simp only [Act.put, List.setIfInBounds_toArray, List.set_cons_zero, List.set_cons_succ]
  refine take_at 5 9 (v := .func (.func 42) #[.pointer (some ⟨D, 0, none⟩)] #[]) rfl rfl (by kernel_rfl) (by kernel_rfl) (by kernel_rfl) (fun _ _ _ h => h) (Or.inl ⟨by rfl, fun W hW => by go_simp⟩) S0 ?_
  simp only [Act.put, List.setIfInBounds_toArray, List.set_cons_zero, List.set_cons_succ]
  refine take_at 6 10 (v := .func (.func 50) #[] #[.pointer (some ⟨q, 0, none⟩)]) rfl rfl (by kernel_rfl) (by kernel_rfl) (by kernel_rfl) (fun _ _ _ h => h) (Or.inl ⟨by rfl, fun W hW => by go_simp⟩) S0 ?_
  simp only [Act.put, List.setIfInBounds_toArray, List.set_cons_zero, List.set_cons_succ]
  refine one_at 3 (by kernel_rfl) rfl rfl ?_
  refine oper_call 7 rfl (by go_simp; rfl) (tdec_any 4294967295 (mkB t_bad) 49 q W2) ?_
  rintro e w1 ⟨g1, f1, p1, rfl, k1, B1⟩
  have S1 : w1.cell? ⟨q, 0, none⟩ = some (.pointer (some ⟨D, 0, none⟩)) := (World.cell?_of_block (k1.block q hdl (by simp))).trans S0
  refine ⟨_, rfl, S1, ?_⟩
  simp only [Act.put, List.setIfInBounds_toArray, List.set_cons_zero, List.set_cons_succ]
  refine one_at 7 (by kernel_rfl) rfl rfl ?_
  refine oper_call 11 rfl (by go_simp; rfl) (tdec_any 18446744073709551615 (mkB t_bad) 50 q w1) ?_
  rintro e w2 ⟨g2, f2, p2, rfl, k2, B2⟩
  have S2 : w2.cell? ⟨q, 0, none⟩ = some (.pointer (some ⟨D, 0, none⟩)) := (World.cell?_of_block (k2.block q (Nat.lt_of_lt_of_le hdl k1.size) (by simp))).trans S1
  refine ⟨_, rfl, S2, ?_⟩
  simp only [Act.put, List.setIfInBounds_toArray, List.set_cons_zero, List.set_cons_succ]
  refine wpAnyH_done (by kernel_rfl) ?_ _
  change wpList _ _ _ _ _ _
  have hq := HQ.out
  have gw2 : w.grownBy w2 none := gr_trans hg2.out (gr_trans k1 k2)
  have hql : q < w2.heap.size := Nat.lt_of_lt_of_le hdl (Nat.le_trans k1.size k2.size)
  have hs2 := hg2.out.size
  have hs3 := k1.size
  have hs4 := k2.size
  have R3 : IsRd w1 w1.heap.size D 3 (numV g1 f1 p1) := rdNum (n1 := w.heap.size) (by decide) (by decide) (by decide) rfl rfl hlt hs2 (by omega) (by omega) S1 B1
  have R4 : IsRd w2 w2.heap.size D 4 (numV g2 f2 p2) := rdNum (n1 := w.heap.size) (by decide) (by decide) (by decide) rfl rfl hlt (by omega) (by omega) hql S2 B2
  have RL : RdL w2 D [0, 3, 1, 4] [keyV D, numV g1 f1 p1, expV D, numV g2 f2 p2] := ((((RdL.nil w2 D).cons R4).cons rdExp).cons (R3.up hs4 (Nat.le_refl _) k2)).cons rdKey
  obtain ⟨W3, hW3⟩ : ∃ W3, W3 = w2.alloc (.cells #[.func (.func 44) #[.pointer (some ⟨D, 0, none⟩)] #[], .func (.func 53) #[] #[.pointer (some ⟨g1, 0, none⟩), .pointer (some ⟨f1, 0, none⟩), .pointer (some ⟨p1, 0, none⟩)], .func (.func 42) #[.pointer (some ⟨D, 0, none⟩)] #[], .func (.func 53) #[] #[.pointer (some ⟨g2, 0, none⟩), .pointer (some ⟨f2, 0, none⟩), .pointer (some ⟨p2, 0, none⟩)]] 74) := ⟨_, rfl⟩
  have O3 := own_laid (e := 74) w2 #[.func (.func 44) #[.pointer (some ⟨D, 0, none⟩)] #[], .func (.func 53) #[] #[.pointer (some ⟨g1, 0, none⟩), .pointer (some ⟨f1, 0, none⟩), .pointer (some ⟨p1, 0, none⟩)], .func (.func 42) #[.pointer (some ⟨D, 0, none⟩)] #[], .func (.func 53) #[] #[.pointer (some ⟨g2, 0, none⟩), .pointer (some ⟨f2, 0, none⟩), .pointer (some ⟨p2, 0, none⟩)]] (n := 4) rfl (by decide)
  have g3 := World.grownBy_alloc w2 (.cells #[.func (.func 44) #[.pointer (some ⟨D, 0, none⟩)] #[], .func (.func 53) #[] #[.pointer (some ⟨g1, 0, none⟩), .pointer (some ⟨f1, 0, none⟩), .pointer (some ⟨p1, 0, none⟩)], .func (.func 42) #[.pointer (some ⟨D, 0, none⟩)] #[], .func (.func 53) #[] #[.pointer (some ⟨g2, 0, none⟩), .pointer (some ⟨f2, 0, none⟩), .pointer (some ⟨p2, 0, none⟩)]] 74) none
  rw [← hW3] at O3 g3
  have gw3 := gr_trans gw2 g3
  have RL3 : RdL W3 D [0, 3, 1, 4] [keyV D, numV g1 f1 p1, expV D, numV g2 f2 p2] := RL.on g3
  have S3 := (World.cell?_of_block (a := ⟨q, 0, none⟩) (g3.block q hql (by simp))).trans S2
  have hD3 : W3.heap[D]? = some (.cells (drC d a c va vc) t (0, 0)) := (gw3.block D hlt (by simp)).trans HD.out
  have v3 := dr_verb hD3
  have hql3 : q < W3.heap.size := Nat.lt_of_lt_of_le hql g3.size
  have hle : w.heap.size ≤ W3.heap.size := gw3.size
  obtain ⟨G3, hG3⟩ : ∃ G3, G3 = w2.heap.size := ⟨_, rfl⟩
  rw [← hG3] at O3
  replace O3 : Hid (W3.ownsRow w.heap.size 74 1 (.slice (some ⟨G3, 0, none⟩) 4 4) 4 [keyV D, numV g1 f1 p1, expV D, numV g2 f2 p2]) := ⟨O3.1, by
    rcases O3.2 with h | ⟨g, cap, cur, h1, h2, h3⟩
    · exact .inl h
    · exact .inr ⟨g, cap, cur, h1, by omega, h3⟩⟩
  replace RL3 := hide RL3
  replace RL := hide RL
  have hz3 : Hid (G3 = w2.heap.size ∧ W3.heap.size = G3 + 1 ∧ q < G3 ∧ w.heap.size ≤ G3 ∧ w.heap.size = q) := ⟨hG3, by rw [hW3, hG3, World.size_alloc], by omega, by omega, hq.symm⟩
  replace g3 := hide g3
  replace gw3 := hide gw3
  refine wpList_buildSlice rfl 70 74 4 _ rfl #[.func (.func 44) #[.pointer (some ⟨D, 0, none⟩)] #[], .func (.func 53) #[] #[.pointer (some ⟨g1, 0, none⟩), .pointer (some ⟨f1, 0, none⟩), .pointer (some ⟨p1, 0, none⟩)], .func (.func 42) #[.pointer (some ⟨D, 0, none⟩)] #[], .func (.func 53) #[] #[.pointer (some ⟨g2, 0, none⟩), .pointer (some ⟨f2, 0, none⟩), .pointer (some ⟨p2, 0, none⟩)]] i0 .nilFunc Tryd.underlying70 hi hz0 (by rw [hz1]; decide) (by rw [hz1]; decide) (by rw [hz1]; kernel_rfl) ?_
  rw [← hW3, ← hG3]
  clear hW3 hG3 S2 B2 S1 B1 S0 k1 k2 R3 R4 hql hs2 hs3 hs4 gw2 hg2 hdl hWs HD hD3 hq HQ
  by_cases hv : d.verb = vb_cas
  · have hk := hks.out
    rw [if_pos hv] at hk
    subst hk
    rw [hv] at v3
    simp only [mkB, vb_cas] at v3
    clear hv hks
    go_wp2_with (first
      | (go_at_call 45; refine (tdec_any _ _ _ _ _).mono ?_; rintro e w4 ⟨g4, f4, p4, rfl, k4, B4⟩; have O4 := hide (own_on O3.out k4); have R4 := hide (RL3.out.on k4); have S4 := hide ((World.cell?_of_block (a := ⟨q, 0, none⟩) (k4.block q hql3 (by simp))).trans S3); replace B4 := hide B4; replace k4 := hide k4; have gw4 := hide (gr_trans gw3.out k4.out))
      | (at_builtin; refine wpList_append_own _ rfl _ _ 70 rfl w.heap.size 74 i0 .nilFunc 1 8 Tryd.underlying70 hi hz0 hz1 hz2 rfl (by decide) _ _ _ rfl (O4.out.alloc _) ⟨w4.heap.size, 0, none⟩ 1 1 [numV g4 f4 p4] rfl rfl (cell_one_new _ _ _) (by simp [numV, Value.oneCell']) (by decide) (by decide) (by have := gw4.out.size; simp; omega) ?_; intro v' w5 o5 k5 _))
    go_ret
    obtain ⟨e1, e2, e3, e4, e5⟩ := hz3.out
    have z3 := k4.out.size
    have z4 := k5.size
    rw [World.size_alloc] at z4
    have bl : ∀ b, b < w4.heap.size → b ≠ G3 → w5.heap[b]? = w4.heap[b]? := fun b hb hne => (k5.block b (by rw [World.size_alloc]; omega) (fun e => hne (by cases e; rfl))).trans (Below.heap_alloc _ _ _ hb)
    have g5 : w.grownBy w5 none := ⟨k5.os.trans gw4.out.os, k5.tape.trans gw4.out.tape, k5.output.trans gw4.out.output, by omega, fun b hb _ => (bl b (by omega) (by omega)).trans (gw4.out.block b hb (by simp))⟩
    have g25 : Gr (fun k => k = D ∨ w2.heap.size ≤ k) w2 w5 := ⟨k5.os.trans (k4.out.os.trans g3.out.os), k5.tape.trans (k4.out.tape.trans g3.out.tape), k5.output.trans (k4.out.output.trans g3.out.output), by omega, fun b hb hn => (bl b (by omega) (by omega)).trans ((k4.out.block b (by omega) (by simp)).trans (g3.out.block b hb (by simp)))⟩
    obtain ⟨l1, l2, l3, l4, l5, l6, c1, c2, c3⟩ := B4.out
    have cell : ∀ b v, b < w4.heap.size → b ≠ G3 → w4.cell? ⟨b, 0, none⟩ = some v → w5.cell? ⟨b, 0, none⟩ = some v := fun b v hb hne h => (World.cell?_of_block (bl b hb hne)).trans h
    have n5 : IsRd w5 w5.heap.size D 5 (numV g4 f4 p4) := rdNum (n1 := w.heap.size) (w0 := W3) (by decide) (by decide) (by decide) rfl rfl hlt hle (by omega) (by omega) (cell q _ (by omega) (by omega) S4.out)
      ⟨l1, l2, l3, by omega, by omega, by omega, cell _ _ l4 (by omega) c1, cell _ _ l5 (by omega) c2, cell _ _ l6 (by omega) c3⟩
    exact ⟨v', _, rfl, o5, (RL.out.to g25).app ((RdL.nil w5 D).cons n5), g5⟩
  · have hk := hks.out
    rw [if_neg hv] at hk
    subst hk
    have hvb : (d.verb == [99, 97, 115]) = false := by simpa [vb_cas] using hv
    simp only [mkB] at v3
    clear hv hks
    go_wp2
    go_ret
    exact ⟨_, _, rfl, O3.out, RL3.out, gw3.out⟩
end
end Go.Proofs.YthofdmepofepgaaDoor
