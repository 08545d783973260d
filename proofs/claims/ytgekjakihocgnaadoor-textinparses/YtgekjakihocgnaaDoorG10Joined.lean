/- The document's own text dialect: its small functions. Conditions: none. The document's own text dialect: which words are keys, which verbs store, how many words a line has. Conditions: none. The document's own text dialect: version and quit. Conditions: none. The document's own text dialect: flush_all. Conditions: the words are not too long. -/
import Derived.Test.YtgekjakihocgnaaDoorTextU
import Derived.Test.YtgekjakihocgnaaDoorG19Joined
import Derived.Test.YtgekjakihocgnaaDoorG04Joined
import Derived.Test.YtgekjakihocgnaaDoorG20Joined
namespace Go.Proofs.YtgekjakihocgnaaDoor
set_option linter.unusedVariables false
open Go.RowKit

def zeroSt : Array Value := #[.slice none 0 0, .int .i64 0, .string ⟨#[]⟩, .int .i64 0, .int .u32 0, .bool false, .bool false, .string ⟨#[]⟩, .slice none 0 0, .slice none 0 0, .bool false, .string ⟨#[]⟩, .int .i64 0, .int .i64 0, .bool false, .int .i64 0]
theorem rbad_any (w : World) : Calls Tryd.prog 38 #[] w fun e w' => e = .returned (.string (mkB t_bad)) ∧ w = w' := by
  go_enter Tryd.func38, Tryd.ntmps38
  go_wp2
  go_ret
  exact ⟨rfl, rfl⟩
set_option maxRecDepth 100000 in
set_option maxHeartbeats 1000000 in
theorem rfault_any (f : List UInt8) (hf : f.length ≤ 1000) (used : Int) (w : World) : Calls Tryd.prog 16 #[.int .i64 used, .string (mkB f)] w fun e w' => e = .returned (.agg (stC (refuseS f used) none 0 none 0 none 0)) ∧ w.grownBy w' none := by
  have hg := World.grownBy_alloc w (.cells (stC (refuseS f used) none 0 none 0 none 0) 34) none
  have HE : Hid (stC (refuseS f used) none 0 none 0 none 0 = #[.slice none 0 0, .int .i64 0, .string ⟨#[]⟩, .int .i64 0, .int .u32 0, .bool false, .bool false, .string ⟨#[]⟩, .slice none 0 0, .slice none 0 0, .bool false, .string (⟨f.toArray⟩ ++ ⟨#[13, 10]⟩), .int .i64 used, .int .i64 0, .bool false, .int .i64 2]) := by
    show _ = _
    rw [show (⟨f.toArray⟩ ++ ⟨#[13, 10]⟩ : ByteArray) = mkB (f ++ t_end) from str_app f t_end]
    rfl
  have hl : ¬ 9223372036854775807 < f.length + 2 := by omega
  clear hf
  simp only [mkB]
  go_enter Tryd.func16, Tryd.ntmps16
  go_wp2_with (refine wpList_store_row rfl 34 _ _ rfl w.heap.size (stC (refuseS f used) none 0 none 0 none 0) rfl (by rw [HE.out]; rfl) _ (stC noS none 0 none 0 none 0) (World.alloc_heap_new w _) (step_size _ _ _ _ _ _ _) rfl (step_one _ _ _ _ _ _ _) ?_; rw [setRow_alloc])
  exact step_ret rfl (World.alloc_heap_new w _) rfl rfl ⟨rfl, hg⟩
/-- A request of one command. -/
def oneS (used : Int) (c : Cv) (f : Fv) : Sv := ⟨⟨[c], f⟩, ⟨#[]⟩, used, 0, false, 0⟩
def OneEnd (used : Int) (c : Cv) (va : Option Addr) (vc : Nat) (f : Fv) (ta : Option Addr) (tc : Nat) (ka : Option Addr) (kc : Nat) (w : World) (e : Ending) (w' : World) : Prop :=
  ∃ B, w.heap.size ≤ B ∧ B < w'.heap.size ∧ e = .returned (.agg (stC (oneS used c f) (some ⟨B, 0, none⟩) 1 ta tc ka kc)) ∧ w'.heap[B]? = some (.cells (cmC c va vc) 39 (0, 0)) ∧ w.grownBy w' none
theorem fmr_at {W : World} {p : Nat} {f : Fv} {ta ka : Option Addr} {tc kc : Nat} {t : TypeId} (h : W.heap[p]? = some (.cells (fmC f ta tc ka kc) t (0, 0))) (j : Nat) (v : Value) (hv : (fmC f ta tc ka kc)[j]? = some v) : W.cell? ⟨p, j, none⟩ = some v := by
  unfold World.cell?
  rw [h]
  exact hv
theorem fmr_cells {W : World} {p : Nat} {f : Fv} {ta ka : Option Addr} {tc kc : Nat} {t : TypeId} (h : W.heap[p]? = some (.cells (fmC f ta tc ka kc) t (0, 0))) : W.cell? ⟨p, 0, none⟩ = some (.int .i64 f.dia) ∧ W.cell? ⟨p, 1, none⟩ = some (.string f.verb) ∧ W.cell? ⟨p, 2, none⟩ = some (.int .i64 f.code) ∧ W.cell? ⟨p, 3, none⟩ = some (.int .u32 f.opq) ∧ W.cell? ⟨p, 4, none⟩ = some (.bool f.quiet) ∧ W.cell? ⟨p, 5, none⟩ = some (.bool f.wcas) ∧ W.cell? ⟨p, 6, none⟩ = some (.string f.flags) ∧ W.cell? ⟨p, 7, none⟩ = some (.slice ta f.toks.length tc) ∧ W.cell? ⟨p, 8, none⟩ = some (.slice ka f.keys.length kc) ∧ W.cell? ⟨p, 9, none⟩ = some (.bool f.b64) :=
  ⟨fmr_at h 0 _ rfl, fmr_at h 1 _ rfl, fmr_at h 2 _ rfl, fmr_at h 3 _ rfl, fmr_at h 4 _ rfl, fmr_at h 5 _ rfl, fmr_at h 6 _ rfl, fmr_at h 7 _ rfl, fmr_at h 8 _ rfl, fmr_at h 9 _ rfl⟩
set_option maxRecDepth 100000 in
set_option maxHeartbeats 2000000 in
theorem rone_any (used : Int) (c : Cv) (va : Option Addr) (vc : Nat) (f : Fv) (ta : Option Addr) (tc : Nat) (ka : Option Addr) (kc : Nat) (w : World) : Calls Tryd.prog 40 #[.int .i64 used, .agg (cmC c va vc), .agg (fmC f ta tc ka kc)] w fun e w' => OneEnd used c va vc f ta tc ka kc w e w' := by
  obtain ⟨W1, hW1⟩ : ∃ W1, W1 = w.alloc (.cells (cmC c va vc) 39) := ⟨_, rfl⟩
  obtain ⟨W2, hW2⟩ : ∃ W2, W2 = W1.alloc (.cells (fmC f ta tc ka kc) 29) := ⟨_, rfl⟩
  obtain ⟨W3, hW3⟩ : ∃ W3, W3 = W2.alloc (.cells zeroSt 34) := ⟨_, rfl⟩
  obtain ⟨W4, hW4⟩ : ∃ W4, W4 = W3.alloc (.cells (cmC c va vc) 39) := ⟨_, rfl⟩
  have z1 : W1.heap.size = w.heap.size + 1 := by rw [hW1, World.size_alloc]
  have z2 : W2.heap.size = w.heap.size + 1 + 1 := by rw [hW2, World.size_alloc, z1]
  have z3 : W3.heap.size = w.heap.size + 1 + 1 + 1 := by rw [hW3, World.size_alloc, z2]
  have z4 : W4.heap.size = w.heap.size + 1 + 1 + 1 + 1 := by rw [hW4, World.size_alloc, z3]
  have g1 : w.grownBy W1 none := by rw [hW1]; exact World.grownBy_alloc _ _ _
  have g2 : W1.grownBy W2 none := by rw [hW2]; exact World.grownBy_alloc _ _ _
  have g3 : W2.grownBy W3 none := by rw [hW3]; exact World.grownBy_alloc _ _ _
  have g4 : W3.grownBy W4 none := by rw [hW4]; exact World.grownBy_alloc _ _ _
  have n1 : W1.heap[w.heap.size]? = some (.cells (cmC c va vc) 39 (0, 0)) := by rw [hW1]; exact World.alloc_heap_new _ _
  have n2 : W2.heap[w.heap.size + 1]? = some (.cells (fmC f ta tc ka kc) 29 (0, 0)) := by rw [hW2, ← z1]; exact World.alloc_heap_new _ _
  have n3 : W3.heap[w.heap.size + 1 + 1]? = some (.cells zeroSt 34 (0, 0)) := by rw [hW3, ← z2]; exact World.alloc_heap_new _ _
  have n4 : W4.heap[w.heap.size + 1 + 1 + 1]? = some (.cells (cmC c va vc) 39 (0, 0)) := by rw [hW4, ← z3]; exact World.alloc_heap_new _ _
  have r1 := hide ((g3.block _ (by omega) (by simp)).trans ((g2.block _ (by omega) (by simp)).trans n1))
  have r2 := (g4.block _ (by omega) (by simp)).trans ((g3.block _ (by omega) (by simp)).trans n2)
  have r3 := hide ((g4.block _ (by omega) (by simp)).trans n3)
  obtain ⟨f0, f1, f2, f3, f4, f5, f6, f7, f8, f9⟩ := fmr_cells r2
  have HW3 : Hid (((w.alloc (.cells (cmC c va vc) 39)).alloc (.cells (fmC f ta tc ka kc) 29)).alloc (.cells zeroSt 34) = W3) := by show _ = _; rw [hW3, hW2, hW1]
  unfold zeroSt at HW3
  have HW4 : Hid (W3.alloc (.cells (cmC c va vc) 39) = W4) := hW4.symm
  have Z3 := hide z3
  have hend := setRow_heap W4 _ zeroSt (stC (oneS used c f) (some ⟨w.heap.size + 1 + 1 + 1, 0, none⟩) 1 ta tc ka kc) _ _ r3.out
  have HP : Hid (OneEnd used c va vc f ta tc ka kc w (.returned (.agg (stC (oneS used c f) (some ⟨w.heap.size + 1 + 1 + 1, 0, none⟩) 1 ta tc ka kc))) (W4.setRow (w.heap.size + 1 + 1) (stC (oneS used c f) (some ⟨w.heap.size + 1 + 1 + 1, 0, none⟩) 1 ta tc ka kc))) := by
    have hg : w.grownBy W4 none := gr_trans g1 (gr_trans g2 (gr_trans g3 g4))
    exact ⟨w.heap.size + 1 + 1 + 1, by omega, by rw [size_setRow]; omega, rfl, (setRow_other W4 _ _ _ (by omega)).trans n4, ⟨hg.os, hg.tape, hg.output, by rw [size_setRow]; exact hg.size, fun k hk hn => (setRow_other W4 _ k _ (by omega)).trans (hg.block k hk hn)⟩⟩
  obtain ⟨i0, hi, hz0, hz1, hz2⟩ := info_parts info_cmd
  clear r2 n1 n2 n3 n4 g1 g2 g3 g4 hW1 hW2 hW3 hW4 z1 z2 z3 z4
  go_enter Tryd.func40, Tryd.ntmps40
  go_wp2_with (first
    | (rw [HW3.out]; refine wpList_load_row rfl 39 _ rfl w.heap.size rfl _ (cmC c va vc) _ _ r1.out Tryd.underlying39 rfl (cmd_size _ _ _) ?_)
    | (refine wpList_buildSlice rfl 25 39 1 _ rfl (cmC c va vc) i0 _ Tryd.underlying25 hi hz0 (by rw [hz1]; decide) (by rw [hz1]; decide) (by rw [hz1]; kernel_rfl) ?_; rw [HW4.out, Z3.out])
    | (refine wpList_store_row rfl 34 _ _ rfl (w.heap.size + 1 + 1) (stC (oneS used c f) (some ⟨w.heap.size + 1 + 1 + 1, 0, none⟩) 1 ta tc ka kc) rfl rfl _ _ r3.out (step_size _ _ _ _ _ _ _) rfl (step_one _ _ _ _ _ _ _) ?_))
  exact step_ret rfl hend rfl rfl HP.out
end Go.Proofs.YtgekjakihocgnaaDoor

namespace Go.Proofs.YtgekjakihocgnaaDoor
set_option linter.unusedVariables false
open Go.RowKit

/-- Words in a row of texts, from a place on. -/
structure Ru (w : World) (b off len cap : Nat) (ws : List (List UInt8)) : Prop where
  n : ws.length = len
  c : len ≤ cap
  m : cap ≤ maxLen
  lt : b < w.heap.size
  at_ : ∀ i, ∀ h : i < ws.length, w.cell? ⟨b, off + i, none⟩ = some (.string (mkB ws[i]))
theorem Ru.keep {w w' : World} {b off n cap : Nat} {ws : List (List UInt8)} (h : Ru w b off n cap ws) (hb : w'.heap[b]? = w.heap[b]?) (hz : w.heap.size ≤ w'.heap.size) : Ru w' b off n cap ws :=
  ⟨h.n, h.c, h.m, Nat.lt_of_lt_of_le h.lt hz, fun i hi => (World.cell?_of_block (a := ⟨b, off + i, none⟩) hb).trans (h.at_ i hi)⟩
theorem Ru.on {w w' : World} {b off n cap : Nat} {ws : List (List UInt8)} (h : Ru w b off n cap ws) (hg : w.grownBy w' none) : Ru w' b off n cap ws := h.keep (hg.block b h.lt (by simp)) hg.size
theorem Ru.drop {w : World} {b off n cap : Nat} {ws : List (List UInt8)} (h : Ru w b off n cap ws) (k : Nat) (hk : k ≤ n) : Ru w b (off + k) (n - k) (cap - k) (ws.drop k) := by
  have hc := h.c
  have hm := h.m
  refine ⟨by rw [List.length_drop, h.n], by omega, by omega, h.lt, fun i hi => ?_⟩
  rw [List.length_drop] at hi
  rw [Nat.add_assoc, h.at_ (k + i) (by omega), List.getElem_drop]
theorem Ru.take {w : World} {b off n cap : Nat} {ws : List (List UInt8)} (h : Ru w b off n cap ws) (k : Nat) (hk : k ≤ n) : Ru w b off k cap (ws.take k) := by
  have hc := h.c
  refine ⟨by rw [List.length_take, h.n]; omega, by omega, h.m, h.lt, fun i hi => ?_⟩
  rw [List.length_take] at hi
  rw [h.at_ i (by omega), List.getElem_take]
theorem Ru.su {w : World} {b off n cap : Nat} {ws : List (List UInt8)} (h : Ru w b off n cap ws) : Su w (some ⟨b, off, none⟩) n cap (ws.map mkB) := by
  refine ⟨by rw [List.length_map, h.n], h.c, h.m, .inr ⟨b, off, rfl, h.lt, fun i x hi => ?_⟩⟩
  rw [List.getElem?_map] at hi
  cases hx : ws[i]? with
  | none => rw [hx] at hi; cases hi
  | some y =>
    rw [hx] at hi
    obtain ⟨h1, h2⟩ := List.getElem?_eq_some_iff.1 hx
    rw [h.at_ i h1, h2]
    cases hi
    rfl
def rkeysN (l : List (List UInt8)) : Bool := decide (l.length ≤ 16) && l.all keyN
theorem mkB_list (x : List UInt8) : (mkB x).data.toList = x := rfl
set_option maxRecDepth 100000 in
set_option maxHeartbeats 1000000 in
theorem rkeys_any {w : World} {b off n cap : Nat} {ws : List (List UInt8)} (h : Ru w b off n cap ws) : Calls Tryd.prog 37 #[.slice (some ⟨b, off, none⟩) n cap] w fun e w' => e = .returned (.bool (rkeysN ws)) ∧ w = w' := by
  have hn := h.n
  have hm := h.m
  have hc := h.c
  unfold maxLen at hm
  by_cases h16 : n ≤ 16
  · have i16 : ¬ (16 : Int) < (n : Int) := by omega
    have HR : Hid (rkeysN ws = ws.all keyN) := by show _ = _; unfold rkeysN; rw [hn, decide_eq_true h16, Bool.true_and]
    have HC := hide h.at_
    have HN := hide hn
    clear h hn hm hc
    go_enter Tryd.func37, Tryd.ntmps37
    go_wp2
    go_loop [3] (fun i => ∃ k : Nat, k ≤ n ∧ i = .int .i64 k ∧ Hid (∀ j, ∀ hj : j < ws.length, j < k → keyN ws[j] = true)) (fun i => n - (intOf i).toNat)
    case atStart => exact ⟨0, Nat.zero_le _, rfl, fun j _ hj => absurd hj (Nat.not_lt_zero _)⟩
    case round =>
      obtain ⟨k, hk, rfl, HK⟩ := hrel
      by_cases hlt : k < n
      · have hki : (k : Int) < (n : Int) := by omega
        have hc := HC.out k (by rw [HN.out]; exact hlt)
        obtain ⟨x, hx⟩ : ∃ x, x = ws[k]'(by rw [HN.out]; exact hlt) := ⟨_, rfl⟩
        rw [← hx] at hc
        have HX := hide hx
        have e1 : wrap64 ((k : Int) + 1) = (k : Int) + 1 := by unfold wrap64; omega
        clear hx
        cases hq : keyN x
        · have HF : Hid (rkeysN ws = false) := by
            show _ = _
            rw [HR.out, List.all_eq_false]
            exact ⟨x, by rw [HX.out]; exact List.getElem_mem _, by simp [hq]⟩
          have HQ := hide (fun W => rkey_any (mkB x) W)
          rw [mkB_list, hq] at HQ
          clear hq HR HK
          go_wp2_with (go_at_call 42; refine (HQ.out _).mono ?_; rintro e w1 ⟨rfl, rfl⟩)
          go_ret
          exact ⟨by rw [HF.out]; rfl, rfl⟩
        · have HT : Hid (∀ j, ∀ hj : j < ws.length, j < k + 1 → keyN ws[j] = true) := fun j hj hjk => by
            by_cases e : j = k
            · subst e; rw [HX.out] at hq; exact hq
            · exact HK.out j hj (by omega)
          have HQ := hide (fun W => rkey_any (mkB x) W)
          rw [mkB_list, hq] at HQ
          clear hq HR HK
          go_wp2_with (go_at_call 42; refine (HQ.out _).mono ?_; rintro e w1 ⟨rfl, rfl⟩)
          go_round
          case rel => exact ⟨k + 1, by omega, by go_num, HT⟩
          case measure => simp [intOf]; omega
      · obtain rfl : k = n := by omega
        have HT : Hid (rkeysN ws = true) := by
          show _ = _
          rw [HR.out, List.all_eq_true]
          intro x hx
          obtain ⟨i, hi, rfl⟩ := List.getElem_of_mem hx
          exact HK.out i hi (by rw [← HN.out]; exact hi)
        clear HR HK
        go_wp2
        go_ret
        exact ⟨by rw [HT.out]; rfl, rfl⟩
  · have i16 : (16 : Int) < (n : Int) := by omega
    have HF : Hid (rkeysN ws = false) := by show _ = _; unfold rkeysN; rw [hn, decide_eq_false h16, Bool.false_and]
    clear h hm hc h16
    go_enter Tryd.func37, Tryd.ntmps37
    go_wp2
    go_ret
    exact ⟨by rw [HF.out]; rfl, rfl⟩
/-- What a verb that stores does; -1: it does not. -/
def nmsB (k : Nat) : List UInt8 := [vb_set, vb_add, vb_replace, vb_append, vb_prepend, vb_cas].getD k []
def opsK (k : Nat) : Int := [3, 4, 5, 6, 7, 3].getD k 0
def ropN (v : List UInt8) : Int := if v = vb_set ∨ v = vb_cas then 3 else if v = vb_add then 4 else if v = vb_replace then 5 else if v = vb_append then 6 else if v = vb_prepend then 7 else -1
theorem rop_at (k : Nat) (hk : k < 6) : ropN (nmsB k) = opsK k := by
  match k, hk with
  | 0, _ => decide
  | 1, _ => decide
  | 2, _ => decide
  | 3, _ => decide
  | 4, _ => decide
  | 5, _ => decide
theorem rop_none (v : List UInt8) (h : ∀ j, j < 6 → nmsB j ≠ v) : ropN v = -1 := by
  have h0 : ¬ v = vb_set := fun e => h 0 (by decide) e.symm
  have h1 : ¬ v = vb_add := fun e => h 1 (by decide) e.symm
  have h2 : ¬ v = vb_replace := fun e => h 2 (by decide) e.symm
  have h3 : ¬ v = vb_append := fun e => h 3 (by decide) e.symm
  have h4 : ¬ v = vb_prepend := fun e => h 4 (by decide) e.symm
  have h5 : ¬ v = vb_cas := fun e => h 5 (by decide) e.symm
  unfold ropN
  rw [if_neg (by rintro (h | h) <;> contradiction), if_neg h1, if_neg h2, if_neg h3, if_neg h4]
def nmsC : Array Value := #[.string (mkB vb_set), .string (mkB vb_add), .string (mkB vb_replace), .string (mkB vb_append), .string (mkB vb_prepend), .string (mkB vb_cas)]
def opsC : Array Value := #[.int .i64 3, .int .i64 4, .int .i64 5, .int .i64 6, .int .i64 7, .int .i64 3]
theorem nmsC_at (k : Nat) (hk : k < 6) : nmsC[k]? = some (.string (mkB (nmsB k))) := by
  match k, hk with
  | 0, _ => rfl
  | 1, _ => rfl
  | 2, _ => rfl
  | 3, _ => rfl
  | 4, _ => rfl
  | 5, _ => rfl
theorem opsC_at (k : Nat) (hk : k < 6) : opsC[k]? = some (.int .i64 (opsK k)) := by
  match k, hk with
  | 0, _ => rfl
  | 1, _ => rfl
  | 2, _ => rfl
  | 3, _ => rfl
  | 4, _ => rfl
  | 5, _ => rfl
theorem mkB_inj {x y : List UInt8} (h : mkB x = mkB y) : x = y := by rw [← mkB_list x, h, mkB_list]
set_option maxRecDepth 100000 in
set_option maxHeartbeats 1000000 in
theorem rop_any (v : List UInt8) (w : World) : Calls Tryd.prog 21 #[.string (mkB v)] w fun e w' => e = .returned (.int .i64 (ropN v)) ∧ w.grownBy w' none := by
  obtain ⟨W1, hW1⟩ : ∃ W1, W1 = w.alloc (.cells nmsC 9) := ⟨_, rfl⟩
  obtain ⟨W2, hW2⟩ : ∃ W2, W2 = W1.alloc (.cells opsC 3) := ⟨_, rfl⟩
  have z1 : W1.heap.size = w.heap.size + 1 := by rw [hW1, World.size_alloc]
  have g1 : w.grownBy W1 none := by rw [hW1]; exact World.grownBy_alloc _ _ _
  have g2 : W1.grownBy W2 none := by rw [hW2]; exact World.grownBy_alloc _ _ _
  have n1 : W1.heap[w.heap.size]? = some (.cells nmsC 9 (0, 0)) := by rw [hW1]; exact World.alloc_heap_new _ _
  have n2 : W2.heap[w.heap.size + 1]? = some (.cells opsC 3 (0, 0)) := by rw [hW2, ← z1]; exact World.alloc_heap_new _ _
  have m1 := (g2.block _ (by omega) (by simp)).trans n1
  have CN : Hid (∀ k, k < 6 → W2.cell? ⟨w.heap.size, k, none⟩ = some (.string (mkB (nmsB k)))) := fun k hk => by
    unfold World.cell?
    rw [m1]
    exact nmsC_at k hk
  have CO : Hid (∀ k, k < 6 → W2.cell? ⟨w.heap.size + 1, k, none⟩ = some (.int .i64 (opsK k))) := fun k hk => by
    unfold World.cell?
    rw [n2]
    exact opsC_at k hk
  have HG := hide (gr_trans g1 g2)
  have HW : (w.alloc (.cells nmsC 9)).alloc (.cells opsC 3) = W2 := by rw [hW2, hW1]
  simp only [nmsC, opsC, mkB, vb_set, vb_add, vb_replace, vb_append, vb_prepend, vb_cas] at HW
  clear n1 n2 m1 g1 g2 hW1 hW2 z1
  obtain ⟨V, hV⟩ : ∃ V, V = mkB v := ⟨_, rfl⟩
  rw [← hV]
  replace hV := hide hV
  go_enter Tryd.func21, Tryd.ntmps21
  go_wp2
  clear HW
  go_loop [5] (fun i => ∃ k : Nat, k ≤ 6 ∧ i = .int .i64 k ∧ Hid (∀ j, j < k → nmsB j ≠ v)) (fun i => 6 - (intOf i).toNat)
  case atStart => exact ⟨0, Nat.zero_le _, rfl, fun j hj => absurd hj (Nat.not_lt_zero _)⟩
  case round =>
    obtain ⟨k, hk, rfl, HK⟩ := hrel
    by_cases hlt : k < 6
    · have hki : (k : Int) < 6 := by omega
      have c1 := CN.out k hlt
      have c2 := CO.out k hlt
      have e1 : wrap64 ((k : Int) + 1) = (k : Int) + 1 := by unfold wrap64; omega
      by_cases hx : nmsB k = v
      · have HE : Hid (ropN v = opsK k) := by show _ = _; rw [← hx]; exact rop_at k hlt
        rw [hx, ← hV.out] at c1
        clear hx HK
        go_wp2
        go_ret
        exact ⟨by rw [HE.out]; rfl, HG.out⟩
      · have HT : Hid (∀ j, j < k + 1 → nmsB j ≠ v) := fun j hj => by
          by_cases e : j = k
          · subst e; exact hx
          · exact HK.out j (by omega)
        obtain ⟨X, hX⟩ : ∃ X, X = mkB (nmsB k) := ⟨_, rfl⟩
        have hne : (X.toList == V.toList) = false := by rw [hX, hV.out, ByteArray.toList_eq, ByteArray.toList_eq, beq_eq_false_iff_ne]; exact hx
        rw [← hX] at c1
        clear hx HK hX
        go_wp2
        go_round
        case rel => exact ⟨k + 1, by omega, by go_num, HT⟩
        case measure => simp [intOf]; omega
    · obtain rfl : k = 6 := by omega
      have HT : Hid (ropN v = -1) := by show _ = _; exact rop_none v HK.out
      clear HK
      go_wp2
      go_ret
      exact ⟨by rw [HT.out]; rfl, HG.out⟩
/-- How many words a line that may be quiet has. -/
def rmanyN (v : List UInt8) : Int := if v = vb_set ∨ v = vb_add ∨ v = vb_replace ∨ v = vb_append ∨ v = vb_prepend then 5 else if v = vb_cas then 6 else if v = vb_delete then 2 else if v = vb_incr ∨ v = vb_decr ∨ v = vb_touch then 3 else 0
theorem rmany_no {v : List UInt8} (h : NoVerb v) : rmanyN v = 0 := by
  have h_set : ¬ v = vb_set := by simpa using h.set_
  have h_add : ¬ v = vb_add := by simpa using h.add_
  have h_replace : ¬ v = vb_replace := by simpa using h.replace_
  have h_append : ¬ v = vb_append := by simpa using h.append_
  have h_prepend : ¬ v = vb_prepend := by simpa using h.prepend_
  have h_cas : ¬ v = vb_cas := by simpa using h.cas_
  have h_delete : ¬ v = vb_delete := by simpa using h.delete_
  have h_incr : ¬ v = vb_incr := by simpa using h.incr_
  have h_decr : ¬ v = vb_decr := by simpa using h.decr_
  have h_touch : ¬ v = vb_touch := by simpa using h.touch_
  unfold rmanyN
  rw [if_neg (by rintro (h | h | h | h | h) <;> contradiction), if_neg h_cas, if_neg h_delete, if_neg (by rintro (h | h | h) <;> contradiction)]
set_option maxRecDepth 100000 in
set_option maxHeartbeats 4000000 in
theorem rmany_any (v : List UInt8) (w : World) : Calls Tryd.prog 20 #[.string (mkB v)] w fun e w' => e = .returned (.int .i64 (rmanyN v)) ∧ w = w' := by
  rcases verbs v with rfl | rfl | rfl | rfl | rfl | rfl | rfl | rfl | rfl | rfl | rfl | rfl | rfl | rfl | rfl | rfl | rfl | h
  · rw [show rmanyN vb_get = 0 by decide]
    simp only [mkB, vb_get]
    go_enter Tryd.func20, Tryd.ntmps20
    go_wp2
    go_ret
    exact ⟨rfl, rfl⟩
  · rw [show rmanyN vb_gets = 0 by decide]
    simp only [mkB, vb_gets]
    go_enter Tryd.func20, Tryd.ntmps20
    go_wp2
    go_ret
    exact ⟨rfl, rfl⟩
  · rw [show rmanyN vb_gat = 0 by decide]
    simp only [mkB, vb_gat]
    go_enter Tryd.func20, Tryd.ntmps20
    go_wp2
    go_ret
    exact ⟨rfl, rfl⟩
  · rw [show rmanyN vb_gats = 0 by decide]
    simp only [mkB, vb_gats]
    go_enter Tryd.func20, Tryd.ntmps20
    go_wp2
    go_ret
    exact ⟨rfl, rfl⟩
  · rw [show rmanyN vb_set = 5 by decide]
    simp only [mkB, vb_set]
    go_enter Tryd.func20, Tryd.ntmps20
    go_wp2
    go_ret
    exact ⟨rfl, rfl⟩
  · rw [show rmanyN vb_cas = 6 by decide]
    simp only [mkB, vb_cas]
    go_enter Tryd.func20, Tryd.ntmps20
    go_wp2
    go_ret
    exact ⟨rfl, rfl⟩
  · rw [show rmanyN vb_add = 5 by decide]
    simp only [mkB, vb_add]
    go_enter Tryd.func20, Tryd.ntmps20
    go_wp2
    go_ret
    exact ⟨rfl, rfl⟩
  · rw [show rmanyN vb_replace = 5 by decide]
    simp only [mkB, vb_replace]
    go_enter Tryd.func20, Tryd.ntmps20
    go_wp2
    go_ret
    exact ⟨rfl, rfl⟩
  · rw [show rmanyN vb_append = 5 by decide]
    simp only [mkB, vb_append]
    go_enter Tryd.func20, Tryd.ntmps20
    go_wp2
    go_ret
    exact ⟨rfl, rfl⟩
  · rw [show rmanyN vb_prepend = 5 by decide]
    simp only [mkB, vb_prepend]
    go_enter Tryd.func20, Tryd.ntmps20
    go_wp2
    go_ret
    exact ⟨rfl, rfl⟩
  · rw [show rmanyN vb_delete = 2 by decide]
    simp only [mkB, vb_delete]
    go_enter Tryd.func20, Tryd.ntmps20
    go_wp2
    go_ret
    exact ⟨rfl, rfl⟩
  · rw [show rmanyN vb_incr = 3 by decide]
    simp only [mkB, vb_incr]
    go_enter Tryd.func20, Tryd.ntmps20
    go_wp2
    go_ret
    exact ⟨rfl, rfl⟩
  · rw [show rmanyN vb_decr = 3 by decide]
    simp only [mkB, vb_decr]
    go_enter Tryd.func20, Tryd.ntmps20
    go_wp2
    go_ret
    exact ⟨rfl, rfl⟩
  · rw [show rmanyN vb_touch = 3 by decide]
    simp only [mkB, vb_touch]
    go_enter Tryd.func20, Tryd.ntmps20
    go_wp2
    go_ret
    exact ⟨rfl, rfl⟩
  · rw [show rmanyN vb_flush = 0 by decide]
    simp only [mkB, vb_flush]
    go_enter Tryd.func20, Tryd.ntmps20
    go_wp2
    go_ret
    exact ⟨rfl, rfl⟩
  · rw [show rmanyN vb_version = 0 by decide]
    simp only [mkB, vb_version]
    go_enter Tryd.func20, Tryd.ntmps20
    go_wp2
    go_ret
    exact ⟨rfl, rfl⟩
  · rw [show rmanyN vb_quit = 0 by decide]
    simp only [mkB, vb_quit]
    go_enter Tryd.func20, Tryd.ntmps20
    go_wp2
    go_ret
    exact ⟨rfl, rfl⟩
  · rw [rmany_no h]
    have h_set := h.set_
    have h_add := h.add_
    have h_replace := h.replace_
    have h_append := h.append_
    have h_prepend := h.prepend_
    have h_cas := h.cas_
    have h_delete := h.delete_
    have h_incr := h.incr_
    have h_decr := h.decr_
    have h_touch := h.touch_
    simp only [vb_set, vb_add, vb_replace, vb_append, vb_prepend, vb_cas, vb_delete, vb_incr, vb_decr, vb_touch] at h_set h_add h_replace h_append h_prepend h_cas h_delete h_incr h_decr h_touch
    simp only [mkB]
    clear h
    go_enter Tryd.func20, Tryd.ntmps20
    go_wp2
    go_ret
    exact ⟨rfl, rfl⟩
end Go.Proofs.YtgekjakihocgnaaDoor

namespace Go.Proofs.YtgekjakihocgnaaDoor
set_option linter.unusedVariables false
open Go.RowKit

/-- What a line's function answers: its rows lie in new blocks, or in that of the words. -/
def REnd (b : Nat) (s : Sv) (w : World) (e : Ending) (w' : World) : Prop := ∃ ca cc ta tc ka kc, e = .returned (.agg (stC s ca cc ta tc ka kc)) ∧ (∀ W' : World, (∀ k, k = b ∨ w.heap.size ≤ k → k < w'.heap.size → W'.heap[k]? = w'.heap[k]?) → w'.heap.size ≤ W'.heap.size → QAt W' s.req ca cc ta tc ka kc) ∧ w.grownBy w' none
theorem gr_drewM (w : World) (j : Nat) : w.grownBy (w.drewN j) none := ⟨rfl, rfl, rfl, Nat.le_refl _, fun _ _ _ => rfl⟩
theorem Ru.at0 {w : World} {b n cap : Nat} {ws : List (List UInt8)} (h : Ru w b 0 n cap ws) (i : Nat) (hi : i < ws.length) : w.cell? ⟨b, i, none⟩ = some (.string (mkB ws[i])) := by
  have := h.at_ i hi
  rw [Nat.zero_add] at this
  exact this
section
variable {w W : World} {b : Nat} {old : Array Value} {s : Sv} {ca ta ka : Option Addr} {cc tc kc : Nat}
/-- A step with rows, stored into the result's block. -/
theorem r_end (hb : b < w.heap.size) (hr : W.heap[w.heap.size]? = some (.cells old 34 (0, 0))) (hg : w.grownBy W none) (hq : ∀ W' : World, (∀ k, k = b ∨ w.heap.size < k → k < W.heap.size → W'.heap[k]? = W.heap[k]?) → W.heap.size ≤ W'.heap.size → QAt W' s.req ca cc ta tc ka kc) :
    (W.setRow w.heap.size (stC s ca cc ta tc ka kc)).heap[w.heap.size]? = some (.cells (stC s ca cc ta tc ka kc) 34 (0, 0)) ∧ REnd b s w (.returned (.agg (stC s ca cc ta tc ka kc))) (W.setRow w.heap.size (stC s ca cc ta tc ka kc)) :=
  ⟨setRow_heap W _ old _ _ _ hr, ca, cc, ta, tc, ka, kc, rfl, fun W' hw hz => hq W' (fun k hk hl => (hw k (by omega) (by rw [size_setRow]; exact hl)).trans (setRow_other W _ k _ (by omega))) (by rw [size_setRow] at hz; exact hz), ⟨hg.os, hg.tape, hg.output, by rw [size_setRow]; exact hg.size, fun k hk hn => (setRow_other W _ k _ (by omega)).trans (hg.block k hk hn)⟩⟩
/-- A step without a request. -/
theorem r_bare (hb : b < w.heap.size) (hs : s.req = noQ) (hr : W.heap[w.heap.size]? = some (.cells old 34 (0, 0))) (hg : w.grownBy W none) :
    (W.setRow w.heap.size (stC s none 0 none 0 none 0)).heap[w.heap.size]? = some (.cells (stC s none 0 none 0 none 0) 34 (0, 0)) ∧ REnd b s w (.returned (.agg (stC s none 0 none 0 none 0))) (W.setRow w.heap.size (stC s none 0 none 0 none 0)) :=
  r_end hb hr hg fun W' _ _ => by rw [hs]; exact QAt.none_ _
end
theorem bu_none (w : World) : Bu w none 0 0 [] := ⟨rfl, .inl ⟨rfl, rfl, fun _ => rfl⟩, Nat.le_refl _, Nat.zero_le _⟩
/-- One command's row. -/
theorem one_qat {W : World} {B : Nat} {c : Cv} {va : Option Addr} {vc : Nat} {f : Fv} {ta ka : Option Addr} {tc kc : Nat} (hB : W.heap[B]? = some (.cells (cmC c va vc) 39 (0, 0))) (hv : Bu W va c.val.length vc c.val) (ht : Su W ta f.toks.length tc f.toks) (hk : Su W ka f.keys.length kc f.keys) : QAt W ⟨[c], f⟩ (some ⟨B, 0, none⟩) 1 ta tc ka kc := by
  refine ⟨⟨rfl, Nat.le_refl _, by unfold maxLen; decide, .inr ⟨B, 0, rfl, (Array.getElem?_eq_some_iff.1 hB).1, fun i x hi => ?_⟩⟩, ht, hk⟩
  match i, hi with
  | 0, hi =>
    obtain rfl : c = x := by simpa using hi
    refine ⟨va, vc, fun j v hv => ?_, hv⟩
    unfold World.cell?
    rw [hB]
    simpa using hv
theorem cm_at {W : World} {p : Nat} {c : Cv} {va : Option Addr} {vc : Nat} {t : TypeId} (h : W.heap[p]? = some (.cells (cmC c va vc) t (0, 0))) (j : Nat) (v : Value) (hv : (cmC c va vc)[j]? = some v) : W.cell? ⟨p, j, none⟩ = some v := by
  unfold World.cell?
  rw [h]
  exact hv
theorem cm_cells {W : World} {p : Nat} {c : Cv} {va : Option Addr} {vc : Nat} {t : TypeId} (h : W.heap[p]? = some (.cells (cmC c va vc) t (0, 0))) : W.cell? ⟨p, 0, none⟩ = some (.int .i64 c.op) ∧ W.cell? ⟨p, 1, none⟩ = some (.string c.key) ∧ W.cell? ⟨p, 2, none⟩ = some (.slice va c.val.length vc) ∧ W.cell? ⟨p, 3, none⟩ = some (.int .u32 c.fl) ∧ W.cell? ⟨p, 4, none⟩ = some (.int .i64 c.exp) ∧ W.cell? ⟨p, 5, none⟩ = some (.int .u64 c.cas) ∧ W.cell? ⟨p, 6, none⟩ = some (.int .u64 c.del) ∧ W.cell? ⟨p, 7, none⟩ = some (.int .u64 c.ini) ∧ W.cell? ⟨p, 8, none⟩ = some (.bool c.makes) ∧ W.cell? ⟨p, 9, none⟩ = some (.bool c.sets) :=
  ⟨cm_at h 0 _ rfl, cm_at h 1 _ rfl, cm_at h 2 _ rfl, cm_at h 3 _ rfl, cm_at h 4 _ rfl, cm_at h 5 _ rfl, cm_at h 6 _ rfl, cm_at h 7 _ rfl, cm_at h 8 _ rfl, cm_at h 9 _ rfl⟩
/-- A command without a key or a value. -/
def bareC (op : Int) : Cv := ⟨op, ⟨#[]⟩, [], 0, 0, 0, 0, 0, false, false⟩
def bareF (v : List UInt8) : Fv := ⟨1, mkB v, 0, 0, false, false, ⟨#[]⟩, [], [], false⟩
def rbareS (v : List UInt8) (ws : List (List UInt8)) (used : Int) : Sv := if ws = [] then oneS used (bareC (if v = vb_quit then 16 else 15)) (bareF v) else refuseS t_ERROR used
section
variable {w : World} {b n cap : Nat} {v : List UInt8} {ws : List (List UInt8)}
set_option maxRecDepth 100000 in
set_option maxHeartbeats 1000000 in
theorem rbare_many (hW : Ru w b 0 n cap (v :: ws)) (hws : ws ≠ []) (used : Int) : Calls Tryd.prog 19 #[.slice (some ⟨b, 0, none⟩) n cap, .int .i64 used] w fun e w' => REnd b (refuseS t_ERROR used) w e w' := by
  have hn := hW.n
  have hl : ws.length ≠ 0 := fun e => hws (List.eq_nil_of_length_eq_zero e)
  have h1 : ((n : Int) == 1) = false := by rw [beq_eq_false_iff_ne]; simp at hn; omega
  obtain ⟨W0, hW0⟩ : ∃ W0, W0 = w.alloc (.cells zeroSt 34) := ⟨_, rfl⟩
  have g0 : w.grownBy W0 none := by rw [hW0]; exact World.grownBy_alloc _ _ _
  have r0 : W0.heap[w.heap.size]? = some (.cells zeroSt 34 (0, 0)) := by rw [hW0]; exact World.alloc_heap_new _ _
  have HL : Hid (w.heap.size < W0.heap.size) := by show _ < _; rw [hW0, World.size_alloc]; omega
  have hb := hW.lt
  have HE := hide (fun (W : World) (g : W0.grownBy W none) => r_bare (w := w) (W := W) (b := b) (s := refuseS t_ERROR used) hb rfl ((g.block _ HL.out (by simp)).trans r0) (gr_trans g0 g))
  have R0 := hide (fun (W : World) (g : W0.grownBy W none) => (g.block _ HL.out (by simp)).trans r0)
  have HF := hide (fun W => rfault_any t_ERROR (by decide) used W)
  unfold zeroSt at hW0
  simp only [t_ERROR, mkB] at HF
  clear g0 r0 hb hW hn hl hws
  go_enter Tryd.func19, Tryd.ntmps19
  go_wp2_with (first
    | (go_at_call 16; rw [← hW0]; refine (HF.out _).mono ?_; rintro e w1 ⟨rfl, g1⟩; replace g1 := hide g1)
    | (refine wpList_store_row rfl 34 _ _ rfl w.heap.size (stC (refuseS t_ERROR used) none 0 none 0 none 0) rfl rfl _ _ (R0.out w1 g1.out) (step_size _ _ _ _ _ _ _) rfl (step_one _ _ _ _ _ _ _) ?_))
  exact step_ret rfl (HE.out w1 g1.out).1 rfl rfl (HE.out w1 g1.out).2
/-- One command, its form without rows: the request may be read. -/
theorem one_bare {W0 W1 : World} {used : Int} {c : Cv} {f : Fv} {B : Nat} (hc : c.val = []) (hf : f.toks = []) (hk : f.keys = []) (hB : W1.heap[B]? = some (.cells (cmC c none 0) 39 (0, 0))) (hl : w.heap.size < B) (W' : World) (hw : ∀ k, k = b ∨ w.heap.size < k → k < W1.heap.size → W'.heap[k]? = W1.heap[k]?) : QAt W' (oneS used c f).req (some ⟨B, 0, none⟩) 1 none 0 none 0 :=
  one_qat ((hw B (.inr hl) (Array.getElem?_eq_some_iff.1 hB).1).trans hB) (by rw [hc]; exact bu_none _) (by rw [hf]; exact Su.none_ _) (by rw [hk]; exact Su.none_ _)
set_option maxRecDepth 100000 in
set_option maxHeartbeats 2000000 in
theorem rbare_version (hW : Ru w b 0 1 cap [vb_version]) (used : Int) : Calls Tryd.prog 19 #[.slice (some ⟨b, 0, none⟩) 1 cap, .int .i64 used] w fun e w' => REnd b (oneS used (bareC 15) (bareF vb_version)) w e w' := by
  have hb := hW.lt
  obtain ⟨W0, hW0⟩ : ∃ W0, W0 = w.alloc (.cells zeroSt 34) := ⟨_, rfl⟩
  obtain ⟨W1, hW1⟩ : ∃ W1, W1 = W0.alloc (.cells (cmC (bareC 15) none 0) 39) := ⟨_, rfl⟩
  have z0 : W0.heap.size = w.heap.size + 1 := by rw [hW0, World.size_alloc]
  have g0 : w.grownBy W0 none := by rw [hW0]; exact World.grownBy_alloc _ _ _
  have g1 : W0.grownBy W1 none := by rw [hW1]; exact World.grownBy_alloc _ _ _
  have r0 : W0.heap[w.heap.size]? = some (.cells zeroSt 34 (0, 0)) := by rw [hW0]; exact World.alloc_heap_new _ _
  have n1 : W1.heap[w.heap.size + 1]? = some (.cells (cmC (bareC 15) none 0) 39 (0, 0)) := by rw [hW1, ← z0]; exact World.alloc_heap_new _ _
  have r1 := (g1.block _ (by omega) (by simp)).trans r0
  have hl1 : w.heap.size < W1.heap.size := by have := g1.size; omega
  have c0 := (hW.on (gr_trans g0 g1)).at0 0 (by simp)
  obtain ⟨q0, q1, q2, q3, q4, q5, q6, q7, q8, q9⟩ := cm_cells n1
  simp only [bareC, List.length_nil] at q0 q1 q2 q3 q4 q5 q6 q7 q8 q9
  have HE := hide (fun (W : World) (B : Nat) (g : W1.grownBy W none) (hl : W1.heap.size ≤ B) (hB : W.heap[B]? = some (.cells (cmC (bareC 15) none 0) 39 (0, 0))) => r_end (w := w) (W := W) (b := b) (s := oneS used (bareC 15) (bareF vb_version)) hb ((g.block _ hl1 (by simp)).trans r1) (gr_trans g0 (gr_trans g1 g)) fun W' hw hz => one_bare (W0 := w) (used := used) (c := bareC 15) (f := bareF vb_version) rfl rfl rfl hB (by omega) W' hw)
  have R1 := hide (fun (W : World) (g : W1.grownBy W none) => (g.block _ hl1 (by simp)).trans r1)
  have HO := hide (fun W => rone_any used (bareC 15) none 0 (bareF vb_version) none 0 none 0 W)
  have HW1 : Hid (∀ old, (W0.alloc (.cells old 39)).setRow (w.heap.size + 1) (cmC (bareC 15) none 0) = W1) := fun old => by rw [hW1, ← z0]; exact setRow_alloc _ _ _ _
  have N1 : Hid (∀ old, (W0.alloc (.cells old 39)).heap[w.heap.size + 1]? = some (.cells old 39 (0, 0))) := fun old => by rw [← z0]; exact World.alloc_heap_new _ _
  unfold zeroSt at hW0
  simp only [List.getElem_cons_zero, vb_version, mkB] at c0
  clear g0 g1 r0 r1 n1 hb hW hl1 hW1 z0
  go_enter Tryd.func19, Tryd.ntmps19
  go_wp2_with (first
    | (rw [← hW0]; refine wpList_store_row rfl 39 _ _ rfl (w.heap.size + 1) (cmC (bareC 15) none 0) rfl rfl _ _ (N1.out _) (cmd_size _ _ _) rfl (cmd_one _ _ _) ?_; rw [HW1.out]))
  refine region_dtail 6 (by kernel_rfl) (by simp) (by kernel_rfl) ?_
  simp only [List.take_succ_cons, List.take_zero, List.drop_succ_cons, List.drop_zero]
  repeat (quiet_step (fail))
  refine wpQuiet_nil ?_
  intro _ hw'
  obtain ⟨nq, rfl⟩ := hw'
  clear q0 q1 q2 q3 q4 q5 q6 q7 q8 q9 c0
  have G2 := hide (gr_drewM W1 nq)
  have Z2 : Hid ((W1.drewN nq).heap.size = W1.heap.size) := rfl
  generalize W1.drewN nq = w2 at *
  go_wp2_with (first
    | (go_at_call 40; refine (HO.out w2).mono ?_; rintro e w3 ⟨B, b1, b2, rfl, hB, g3⟩; have g4 := hide (gr_trans G2.out g3); have EE := hide (HE.out w3 B g4.out (by rw [← Z2.out]; exact b1) hB); clear b1 b2 hB g3 HE)
    | (refine wpList_store_row rfl 34 _ _ rfl w.heap.size (stC (oneS used (bareC 15) (bareF vb_version)) (some ⟨B, 0, none⟩) 1 none 0 none 0) rfl rfl _ _ (R1.out w3 g4.out) (step_size _ _ _ _ _ _ _) rfl (step_one _ _ _ _ _ _ _) ?_))
  exact step_ret rfl EE.out.1 rfl rfl EE.out.2
theorem grPut {w W : World} {p j : Nat} (hg : w.grownBy W none) (hp : w.heap.size ≤ p) (v : Value) : w.grownBy (W.setCell ⟨p, j, none⟩ v) none :=
  ⟨hg.os, hg.tape, hg.output, by rw [World.size_setCell]; exact hg.size, fun k hk hn => (heap_setCell_other _ _ _ _ (show k ≠ p by omega)).trans (hg.block k hk hn)⟩
set_option maxRecDepth 100000 in
set_option maxHeartbeats 2000000 in
theorem rbare_quit (hW : Ru w b 0 1 cap [vb_quit]) (used : Int) : Calls Tryd.prog 19 #[.slice (some ⟨b, 0, none⟩) 1 cap, .int .i64 used] w fun e w' => REnd b (oneS used (bareC 16) (bareF vb_quit)) w e w' := by
  have hb := hW.lt
  obtain ⟨W0, hW0⟩ : ∃ W0, W0 = w.alloc (.cells zeroSt 34) := ⟨_, rfl⟩
  obtain ⟨V1, hV1⟩ : ∃ V1, V1 = W0.alloc (.cells (cmC (bareC 15) none 0) 39) := ⟨_, rfl⟩
  obtain ⟨W1, hW1⟩ : ∃ W1, W1 = V1.setCell ⟨w.heap.size + 1, 0, none⟩ (.int .i64 16) := ⟨_, rfl⟩
  have z0 : W0.heap.size = w.heap.size + 1 := by rw [hW0, World.size_alloc]
  have g0 : w.grownBy W0 none := by rw [hW0]; exact World.grownBy_alloc _ _ _
  have gv : W0.grownBy V1 none := by rw [hV1]; exact World.grownBy_alloc _ _ _
  have nv : V1.heap[w.heap.size + 1]? = some (.cells (cmC (bareC 15) none 0) 39 (0, 0)) := by rw [hV1, ← z0]; exact World.alloc_heap_new _ _
  have g1 : W0.grownBy W1 none := by rw [hW1]; exact grPut gv (by omega) _
  have r0 : W0.heap[w.heap.size]? = some (.cells zeroSt 34 (0, 0)) := by rw [hW0]; exact World.alloc_heap_new _ _
  have n1 : W1.heap[w.heap.size + 1]? = some (.cells (cmC (bareC 16) none 0) 39 (0, 0)) := by rw [hW1]; exact heap_setCell_same V1 _ 0 _ _ (.int .i64 16) nv
  have r1 := (g1.block _ (by omega) (by simp)).trans r0
  have hl1 : w.heap.size < W1.heap.size := by have := g1.size; omega
  have c0 := (hW.on (gr_trans g0 g1)).at0 0 (by simp)
  obtain ⟨q0, q1, q2, q3, q4, q5, q6, q7, q8, q9⟩ := cm_cells n1
  simp only [bareC, List.length_nil] at q0 q1 q2 q3 q4 q5 q6 q7 q8 q9
  have HE := hide (fun (W : World) (B : Nat) (g : W1.grownBy W none) (hl : W1.heap.size ≤ B) (hB : W.heap[B]? = some (.cells (cmC (bareC 16) none 0) 39 (0, 0))) => r_end (w := w) (W := W) (b := b) (s := oneS used (bareC 16) (bareF vb_quit)) hb ((g.block _ hl1 (by simp)).trans r1) (gr_trans g0 (gr_trans g1 g)) fun W' hw hz => one_bare (W0 := w) (used := used) (c := bareC 16) (f := bareF vb_quit) rfl rfl rfl hB (by omega) W' hw)
  have R1 := hide (fun (W : World) (g : W1.grownBy W none) => (g.block _ hl1 (by simp)).trans r1)
  have HO := hide (fun W => rone_any used (bareC 16) none 0 (bareF vb_quit) none 0 none 0 W)
  have HV1 : Hid (∀ old, (W0.alloc (.cells old 39)).setRow (w.heap.size + 1) (cmC (bareC 15) none 0) = V1) := fun old => by rw [hV1, ← z0]; exact setRow_alloc _ _ _ _
  have c1 := (hW.on (gr_trans g0 gv)).at0 0 (by simp)
  have p1 := (cm_cells nv).1
  have y1 : V1.frozen? ⟨w.heap.size + 1, 0, none⟩ = false := frozen_of_row _ _ _ _ _ nv
  have HW1 : V1.setCell ⟨w.heap.size + 1, 0, none⟩ (.int .i64 16) = W1 := hW1.symm
  have N1 : Hid (∀ old, (W0.alloc (.cells old 39)).heap[w.heap.size + 1]? = some (.cells old 39 (0, 0))) := fun old => by rw [← z0]; exact World.alloc_heap_new _ _
  unfold zeroSt at hW0
  simp only [List.getElem_cons_zero, vb_quit, mkB] at c0 c1
  clear g0 g1 r0 r1 n1 hb hW hl1 hW1 z0 nv gv hV1
  go_enter Tryd.func19, Tryd.ntmps19
  go_wp2_with (first
    | (rw [← hW0]; refine wpList_store_row rfl 39 _ _ rfl (w.heap.size + 1) (cmC (bareC 15) none 0) rfl rfl _ _ (N1.out _) (cmd_size _ _ _) rfl (cmd_one _ _ _) ?_; rw [HV1.out]))
  clear HW1 c1 p1 y1
  refine region_dtail 6 (by kernel_rfl) (by simp) (by kernel_rfl) ?_
  simp only [List.take_succ_cons, List.take_zero, List.drop_succ_cons, List.drop_zero]
  repeat (quiet_step (fail))
  refine wpQuiet_nil ?_
  intro _ hw'
  obtain ⟨nq, rfl⟩ := hw'
  clear q0 q1 q2 q3 q4 q5 q6 q7 q8 q9 c0
  have G2 := hide (gr_drewM W1 nq)
  have Z2 : Hid ((W1.drewN nq).heap.size = W1.heap.size) := rfl
  generalize W1.drewN nq = w2 at *
  go_wp2_with (first
    | (go_at_call 40; refine (HO.out w2).mono ?_; rintro e w3 ⟨B, b1, b2, rfl, hB, g3⟩; have g4 := hide (gr_trans G2.out g3); have EE := hide (HE.out w3 B g4.out (by rw [← Z2.out]; exact b1) hB); clear b1 b2 hB g3 HE)
    | (refine wpList_store_row rfl 34 _ _ rfl w.heap.size (stC (oneS used (bareC 16) (bareF vb_quit)) (some ⟨B, 0, none⟩) 1 none 0 none 0) rfl rfl _ _ (R1.out w3 g4.out) (step_size _ _ _ _ _ _ _) rfl (step_one _ _ _ _ _ _ _) ?_))
  exact step_ret rfl EE.out.1 rfl rfl EE.out.2
theorem rbare_any (hW : Ru w b 0 n cap (v :: ws)) (hv : v = vb_version ∨ v = vb_quit) (used : Int) : Calls Tryd.prog 19 #[.slice (some ⟨b, 0, none⟩) n cap, .int .i64 used] w fun e w' => REnd b (rbareS v ws used) w e w' := by
  unfold rbareS
  by_cases h : ws = []
  · subst h
    obtain rfl : 1 = n := hW.n
    rw [if_pos rfl]
    rcases hv with rfl | rfl
    · rw [if_neg (by decide)]
      exact rbare_version hW used
    · rw [if_pos rfl]
      exact rbare_quit hW used
  · rw [if_neg h]
    exact rbare_many hW h used
end
end Go.Proofs.YtgekjakihocgnaaDoor

namespace Go.Proofs.YtgekjakihocgnaaDoor
set_option linter.unusedVariables false
open Go.RowKit

/-- Where the function of the other lines begins: its result's block, its form's. -/
structure Beg (w W0 W1 : World) (f : Fv) : Prop where
  eW : w.alloc (.cells #[.slice none 0 0, .int .i64 0, .string ⟨#[]⟩, .int .i64 0, .int .u32 0, .bool false, .bool false, .string ⟨#[]⟩, .slice none 0 0, .slice none 0 0, .bool false, .string ⟨#[]⟩, .int .i64 0, .int .i64 0, .bool false, .int .i64 0] 34) = W0
  st : ∀ old, (W0.alloc (.cells old 29)).setRow (w.heap.size + 1) (fmC f none 0 none 0) = W1
  nw : ∀ old, (W0.alloc (.cells old 29)).heap[w.heap.size + 1]? = some (.cells old 29 (0, 0))
  g0 : w.grownBy W0 none
  gr : w.grownBy W1 none
  z0 : W0.heap.size = w.heap.size + 1
  z : W1.heap.size = w.heap.size + 2
  res : W1.heap[w.heap.size]? = some (.cells zeroSt 34 (0, 0))
  frm : W1.heap[w.heap.size + 1]? = some (.cells (fmC f none 0 none 0) 29 (0, 0))
theorem beg_of (w : World) (f : Fv) : ∃ W0 W1, Beg w W0 W1 f := by
  obtain ⟨W0, hW0⟩ : ∃ W0, W0 = w.alloc (.cells zeroSt 34) := ⟨_, rfl⟩
  obtain ⟨W1, hW1⟩ : ∃ W1, W1 = W0.alloc (.cells (fmC f none 0 none 0) 29) := ⟨_, rfl⟩
  have z0 : W0.heap.size = w.heap.size + 1 := by rw [hW0, World.size_alloc]
  have g0 : w.grownBy W0 none := by rw [hW0]; exact World.grownBy_alloc _ _ _
  have g1 : W0.grownBy W1 none := by rw [hW1]; exact World.grownBy_alloc _ _ _
  have r0 : W0.heap[w.heap.size]? = some (.cells zeroSt 34 (0, 0)) := by rw [hW0]; exact World.alloc_heap_new _ _
  exact ⟨W0, W1, hW0.symm, fun old => by rw [hW1, ← z0]; exact setRow_alloc _ _ _ _, fun old => by rw [← z0]; exact World.alloc_heap_new _ _, g0, gr_trans g0 g1, z0, by rw [hW1, World.size_alloc, z0], (g1.block _ (by omega) (by simp)).trans r0, by rw [hW1, ← z0]; exact World.alloc_heap_new _ _⟩
/-- The form of a line without keys. -/
def formO (v : List UInt8) (q : Bool) (ks : List ByteArray) : Fv := ⟨1, mkB v, 0, 0, q, false, ⟨#[]⟩, [], ks, false⟩
theorem fmC_oneO (f : Fv) (ta : Option Addr) (tc : Nat) (ka : Option Addr) (kc : Nat) : (fmC f ta tc ka kc).all (·.oneCell') = true := by simp [fmC, Value.oneCell']
theorem fmC_sizeO (f : Fv) (ta : Option Addr) (tc : Nat) (ka : Option Addr) (kc : Nat) : (Tryd.prog.info? 29).map (·.size) = some (fmC f ta tc ka kc).size := by
  have h : (Tryd.prog.info? 29).map (·.size) = some 10 := by kernel_rfl
  exact h
theorem mkB_size (x : List UInt8) : (mkB x).size = x.length := by rw [← size_list, mkB_list]
theorem rsgn_any (x : List UInt8) (hx : x.length ≤ 5000) (w : World) : Calls Tryd.prog 39 #[.string (mkB x)] w fun e w' => e = .returned (.tuple #[.int .i64 (sgnV x), .bool (sgnB x)]) ∧ w = w' :=
  (refSigned_any (mkB x) (by rw [mkB_size]; omega) w).mono fun e w' h => ⟨h.1, h.2.symm⟩
theorem rdec_any (x : List UInt8) (hx : x.length ≤ 5000) (w : World) : Calls Tryd.prog 41 #[.string (mkB x)] w fun e w' => e = .returned (.tuple #[.int .u64 (decV x), .bool (decB x)]) ∧ w = w' :=
  (refDecimal_any (mkB x) (by rw [mkB_size]; omega) w).mono fun e w' h => ⟨h.1, h.2.symm⟩
section
variable {w W0 W1 : World} {b n cap : Nat} {ws : List (List UInt8)} {q : Bool}
set_option maxRecDepth 100000 in
set_option maxHeartbeats 1000000 in
theorem rflush_many (hW : Ru w b 0 n cap (vb_flush :: ws)) (h2 : 2 ≤ ws.length) (used : Int) : Calls Tryd.prog 23 #[.slice (some ⟨b, 0, none⟩) n cap, .bool q, .int .i64 used] w fun e w' => REnd b (refuseS t_ERROR used) w e w' := by
  have hn := hW.n
  have hb := hW.lt
  have hni : (2 : Int) < (n : Int) := by simp at hn; omega
  have hn0 : ¬ (n : Int) ≤ 0 := by omega
  obtain ⟨W0, W1, B⟩ := beg_of w (formO vb_flush q [])
  have c0 := (hW.on B.g0).at0 0 (by simp)
  have c1 := (hW.on B.gr).at0 0 (by simp)
  have eW := B.eW
  have z0 := B.z0
  have HB := hide B
  have hl1 : w.heap.size < W1.heap.size := by have := B.z; omega
  have HE := hide (fun (W : World) (g : W1.grownBy W none) => r_bare (w := w) (W := W) (b := b) (s := refuseS t_ERROR used) hb rfl ((g.block _ hl1 (by simp)).trans HB.out.res) (gr_trans HB.out.gr g))
  have R1 := hide (fun (W : World) (g : W1.grownBy W none) => (g.block _ hl1 (by simp)).trans HB.out.res)
  have HF := hide (fun W => rfault_any t_ERROR (by decide) used W)
  simp only [List.getElem_cons_zero, vb_flush, mkB] at c0 c1
  simp only [t_ERROR, mkB] at HF
  clear B hb hW hl1 hn h2
  go_enter Tryd.func23, Tryd.ntmps23
  go_wp2_with (first
    | (refine wpList_store_row rfl 29 _ _ rfl (w.heap.size + 1) (fmC (formO vb_flush q []) none 0 none 0) rfl rfl _ _ (HB.out.nw _) (fmC_sizeO _ _ _ _ _) rfl (fmC_oneO _ _ _ _ _) ?_; rw [HB.out.st]; clear eW z0)
    | (go_at_call 16; refine (HF.out _).mono ?_; rintro e w1 ⟨rfl, g1⟩; replace g1 := hide g1)
    | (refine wpList_store_row rfl 34 _ _ rfl w.heap.size (stC (refuseS t_ERROR used) none 0 none 0 none 0) rfl rfl _ _ (R1.out w1 g1.out) (step_size _ _ _ _ _ _ _) rfl (step_one _ _ _ _ _ _ _) ?_))
  exact step_ret rfl (HE.out w1 g1.out).1 rfl rfl (HE.out w1 g1.out).2
end
end Go.Proofs.YtgekjakihocgnaaDoor
