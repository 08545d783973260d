/- How package textin chooses the readings of a line's words: decimal, keys, storing, parts. Conditions: none. How package textin reads the words of a verb that stores. Conditions: none. -/
import Derived.Test.YtgekjakihocgnaaDoorG22Joined
import Derived.Test.YtgekjakihocgnaaDoorG04Joined
import Derived.Great.BuildSlice
namespace Go.Proofs.YtgekjakihocgnaaDoor
set_option linter.unusedVariables false
open Go.RowKit

def keyV (D : Nat) : Value := .func (.func 50) #[.pointer (some ⟨D, 0, none⟩)] #[]
def expV (D : Nat) : Value := .func (.func 48) #[.pointer (some ⟨D, 0, none⟩)] #[]
def numV (g f p : Nat) : Value := .func (.func 61) #[] #[.pointer (some ⟨g, 0, none⟩), .pointer (some ⟨f, 0, none⟩), .pointer (some ⟨p, 0, none⟩)]
def keepF (k : Nat) : Nat := if k = 2 then 52 else if k = 3 then 57 else if k = 4 then 58 else 59
def keepV (k q : Nat) : Value := .func (.func (keepF k)) #[] #[.pointer (some ⟨q, 0, none⟩)]
/-- A value that is the reading of kind k. -/
def IsRd (w : World) (n0 D k : Nat) (v : Value) : Prop := (k = 0 ∧ v = keyV D) ∨ (k = 1 ∧ v = expV D) ∨ (2 ≤ k ∧ k ≤ 5 ∧ ∃ g f p q, v = numV g f p ∧ NumBox w n0 D k (keepF k) g f p q)
theorem info_rd : (Tryd.prog.info? 65).map (fun i => (i.zero, i.size, i.bytes)) = some (some .nilFunc, 1, 8) := by kernel_rfl
section
variable {wB w w' : World} {n0 D k q : Nat} {d : Dv}
/-- What decimal answers: a reading, and what it has captured. -/
def DecEnd (z : Int) (fl : ByteArray) (hk q : Nat) (w : World) (e : Ending) (w' : World) : Prop := ∃ g f p, e = .returned (.func (.func 61) #[] #[.pointer (some ⟨g, 0, none⟩), .pointer (some ⟨f, 0, none⟩), .pointer (some ⟨p, 0, none⟩)]) ∧ w.grownBy w' none ∧ (w.heap.size ≤ g ∧ w.heap.size ≤ f ∧ w.heap.size ≤ p ∧ g < w'.heap.size ∧ f < w'.heap.size ∧ p < w'.heap.size ∧
    w'.cell? ⟨g, 0, none⟩ = some (.int .u64 z) ∧ w'.cell? ⟨f, 0, none⟩ = some (.string fl) ∧ w'.cell? ⟨p, 0, none⟩ = some (.func (.func hk) #[] #[.pointer (some ⟨q, 0, none⟩)]))
set_option maxRecDepth 100000 in
set_option maxHeartbeats 1000000 in
theorem tdec_any (z : Int) (fl : ByteArray) (hk q : Nat) (w : World) : Calls Tryd.prog 51 #[.int .u64 z, .string fl, .func (.func hk) #[] #[.pointer (some ⟨q, 0, none⟩)]] w fun e w' => DecEnd z fl hk q w e w' := by
  have g1 := gr_trans (gr_trans (World.grownBy_alloc w (.cells #[.int .u64 z] 37) none) (World.grownBy_alloc _ (.cells #[.string fl] 9) none)) (World.grownBy_alloc _ (.cells #[.func (.func hk) #[] #[.pointer (some ⟨q, 0, none⟩)]] 86) none)
  have H0 := (((Law.start w).box (.cells #[.int .u64 z] 37)).box (.cells #[.string fl] 9)).box (.cells #[.func (.func hk) #[] #[.pointer (some ⟨q, 0, none⟩)]] 86)
  simp only [World.size_alloc] at H0
  have c1 := H0.q.1
  have c2 := H0.q.2.1.1
  have c3 := H0.q.2.1.2.1.1
  have HG := hide g1
  have HC := hide (And.intro c1 (And.intro c2 c3))
  clear g1 H0 c1 c2 c3
  go_enter Tryd.func51, Tryd.ntmps51
  go_wp2
  go_ret
  refine ⟨_, _, _, rfl, HG.out, ?_⟩
  obtain ⟨c1, c2, c3⟩ := HC.out
  refine ⟨Nat.le_refl _, Nat.le_succ _, by omega, (by rw [World.size_alloc, World.size_alloc, World.size_alloc]; omega), (by rw [World.size_alloc, World.size_alloc, World.size_alloc]; omega), (by rw [World.size_alloc, World.size_alloc, World.size_alloc]; omega), ?_, ?_, ?_⟩
  · exact Boxed.cell c3
  · exact Boxed.cell c2
  · exact Boxed.cell c1
/-- A list of readings, each of its kind. -/
def RdL (w : World) (D : Nat) (ks : List Nat) (xs : List Value) : Prop := xs.length = ks.length ∧ ∀ (i k : Nat) (x : Value), ks[i]? = some k → xs[i]? = some x → IsRd w w.heap.size D k x
theorem IsRd.up {n1 : Nat} {v : Value} (h : IsRd w n0 D k v) (hn : n0 ≤ n1) (hw : n0 ≤ w.heap.size) (hg : w.grownBy w' none) : IsRd w' n1 D k v := by
  rcases h with h | h | ⟨h1, h2, g, f, p, q, h3, B⟩
  · exact .inl h
  · exact .inr (.inl h)
  · have B2 := B.on hw (GD.of (n0 := n0) (D := D) hg)
    have hl := B2.lt
    exact .inr (.inr ⟨h1, h2, g, f, p, q, h3, B2.cg, B2.cf, B2.cp, B2.cq, ⟨by omega, by omega, by omega, by omega⟩, B2.ne⟩)
theorem RdL.on {ks : List Nat} {xs : List Value} (h : RdL w D ks xs) (hg : w.grownBy w' none) : RdL w' D ks xs := ⟨h.1, fun i k x h1 h2 => (h.2 i k x h1 h2).up hg.size (Nat.le_refl _) hg⟩
/-- What was there stays but for the draft: the readings that were there are still. -/
theorem RdL.to {ks : List Nat} {xs : List Value} (h : RdL w D ks xs) (hg : Gr (fun k => k = D ∨ w.heap.size ≤ k) w w') : RdL w' D ks xs := ⟨h.1, fun i k x h1 h2 => by
  rcases h.2 i k x h1 h2 with h | h | ⟨h1, h2, g, f, p, q, h3, B⟩
  · exact .inl h
  · exact .inr (.inl h)
  · have B2 := B.on (Nat.le_refl _) hg
    have hl := B2.lt
    have hs := hg.size
    exact .inr (.inr ⟨h1, h2, g, f, p, q, h3, B2.cg, B2.cf, B2.cp, B2.cq, ⟨by omega, by omega, by omega, by omega⟩, B2.ne⟩)⟩
theorem RdL.nil (w : World) (D : Nat) : RdL w D [] [] := ⟨rfl, fun i k x h => by simp at h⟩
theorem RdL.cons {ks : List Nat} {xs : List Value} {v : Value} (h : RdL w D ks xs) (hv : IsRd w w.heap.size D k v) : RdL w D (k :: ks) (v :: xs) := by
  refine ⟨by simp [h.1], fun i k' x h1 h2 => ?_⟩
  cases i with
  | zero =>
    simp at h1 h2
    subst h1 h2
    exact hv
  | succ i => exact h.2 i k' x (by simpa using h1) (by simpa using h2)
theorem RdL.app {ks ks' : List Nat} {xs xs' : List Value} (h : RdL w D ks xs) (h' : RdL w D ks' xs') : RdL w D (ks ++ ks') (xs ++ xs') := by
  refine ⟨by simp [h.1, h'.1], fun i k' x h1 h2 => ?_⟩
  rcases Nat.lt_or_ge i ks.length with hi | hi
  · exact h.2 i k' x (by rwa [List.getElem?_append_left hi] at h1) (by rwa [List.getElem?_append_left (by rw [h.1]; exact hi)] at h2)
  · exact h'.2 (i - ks.length) k' x (by rwa [List.getElem?_append_right hi] at h1) (by rw [List.getElem?_append_right (by rw [h.1]; exact hi), h.1] at h2; exact h2)
theorem rdKey : IsRd w w.heap.size D 0 (keyV D) := .inl ⟨rfl, rfl⟩
theorem rdExp : IsRd w w.heap.size D 1 (expV D) := .inr (.inl ⟨rfl, rfl⟩)
theorem RdL.keys (w : World) (D : Nat) : ∀ n : Nat, RdL w D (List.replicate n 0) (List.replicate n (keyV D))
  | 0 => RdL.nil w D
  | n + 1 => (RdL.keys w D n).cons rdKey
/-- What decimal answered is the reading of a number. -/
theorem rdNum {z : Int} {fl : ByteArray} {hk g f p n1 : Nat} {w0 : World} (h2 : 2 ≤ k) (h5 : k ≤ 5) (hz : (mostK k : Int) = z) (hf : mkB (faultK k) = fl) (hkf : keepF k = hk) (hD : D < n1) (h1 : n1 ≤ w0.heap.size) (hqn : n1 ≤ q) (hq : q < w.heap.size) (cq : w.cell? ⟨q, 0, none⟩ = some (.pointer (some ⟨D, 0, none⟩)))
    (h : w0.heap.size ≤ g ∧ w0.heap.size ≤ f ∧ w0.heap.size ≤ p ∧ g < w.heap.size ∧ f < w.heap.size ∧ p < w.heap.size ∧ w.cell? ⟨g, 0, none⟩ = some (.int .u64 z) ∧ w.cell? ⟨f, 0, none⟩ = some (.string fl) ∧ w.cell? ⟨p, 0, none⟩ = some (.func (.func hk) #[] #[.pointer (some ⟨q, 0, none⟩)])) : IsRd w w.heap.size D k (numV g f p) := by
  obtain ⟨l1, l2, l3, l4, l5, l6, c1, c2, c3⟩ := h
  refine .inr (.inr ⟨h2, h5, g, f, p, q, rfl, by rw [hz]; exact c1, by rw [hf]; exact c2, by rw [hkf]; exact c3, cq, ⟨l4, l5, l6, hq⟩, ⟨by omega, by omega, by omega, by omega⟩⟩)
/-- A row that was just laid. -/
theorem own_laid {e : TypeId} (w : World) (cs : Array Value) {n : Nat} (hn : cs.size = n) (hm : n ≤ maxLen) : (w.alloc (.cells cs e)).ownsRow w.heap.size e 1 (.slice (some ⟨w.heap.size, 0, none⟩) n n) n cs.toList := by
  refine ⟨by simp [hn], .inr ⟨w.heap.size, n, cs, rfl, Nat.le_refl _, World.alloc_heap_new w _, Nat.le_refl _, hm, ?_, ?_⟩⟩
  · simp [hn]
  · subst hn
    rw [Nat.mul_one, ← Array.length_toList, List.take_length]
set_option maxRecDepth 100000 in
set_option maxHeartbeats 2000000 in
theorem keys_any (D n : Nat) (m : Int) (hm : (max m 1) = (n : Int)) (hn : n ≤ 100000) (w : World) : Calls Tryd.prog 47 #[.pointer (some ⟨D, 0, none⟩), .int .i64 m] w fun e w' => ∃ v, e = .returned v ∧ w'.ownsRow w.heap.size 65 1 v n (List.replicate n (keyV D)) ∧ Below w.heap.size w w' := by
  obtain ⟨i0, hi, hz0, hz1, hz2⟩ := info_parts info_rd
  go_enter Tryd.func47, Tryd.ntmps47
  go_wp2
  clear hm
  go_loopw [5, 8] (fun v i wr => ∃ k : Nat, k ≤ n ∧ i = .int .i64 k ∧ wr.ownsRow w.heap.size 65 1 v k (List.replicate k (keyV D)) ∧ Below w.heap.size w wr) (fun _ i _ => n - (intOf i).toNat)
  case atStart => exact ⟨0, Nat.zero_le _, rfl, World.ownsRow_nil _ _ _ _, Below.refl _ _⟩
  case round =>
    obtain ⟨k, hk, rfl, hown, hnx⟩ := hrel
    by_cases hlt : k < n
    · have hki : (k : Int) < (n : Int) := by omega
      have e1 : wrap64 ((k : Int) + 1) = (k : Int) + 1 := by unfold wrap64; omega
      have HO := hide hown
      have HB := hide hnx
      clear hown hnx
      go_wp2_with (at_builtin; refine wpList_append_own _ rfl _ _ 61 rfl w.heap.size 65 i0 .nilFunc 1 8 Tryd.underlying61 hi hz0 hz1 hz2 rfl (by decide) _ _ _ rfl (HO.out.alloc _) ⟨wr.heap.size, 0, none⟩ 1 1 [keyV D] rfl rfl (cell_one_new _ _ _) (by simp [keyV, Value.oneCell']) (by unfold maxLen; omega) (by omega) (by have := HB.out.size; simp; omega) ?_; intro v' w1 o1 g1 _; have b1 : Below w.heap.size w w1 := (HB.out.alloc HB.out.size _).grown g1 (by have := HB.out.size; simp; omega) (fun b hb => (own_at HO.out hb).1))
      go_roundw
      case rel => exact ⟨k + 1, by omega, by go_num, by rw [List.replicate_succ']; exact o1, b1⟩
      case measure => simp [intOf]; omega
    · obtain rfl : k = n := by omega
      have hki : ¬ (k : Int) < (k : Int) := by omega
      go_wp2
      go_ret
      exact ⟨_, rfl, hown, hnx⟩
end
end Go.Proofs.YtgekjakihocgnaaDoor

namespace Go.Proofs.YtgekjakihocgnaaDoor
set_option linter.unusedVariables false
open Go.RowKit

section
variable {w : World} {n0 D : Nat} {d : Dv} {a va : Option Addr} {c vc : Nat} {t : TypeId}
theorem own_on {n0 n : Nat} {e : TypeId} {w w' : World} {v : Value} {xs : List Value} (h : w.ownsRow n0 e 1 v n xs) (hg : w.grownBy w' none) : w'.ownsRow n0 e 1 v n xs := own_same h fun k hk => hg.block k (own_at h hk).2.1 (by simp)
/-- What parts and storing answer: a new row of readings of these kinds. -/
def PartsEnd (D : Nat) (ks : List Nat) (w : World) (e : Ending) (w' : World) : Prop := ∃ v xs, e = .returned v ∧ w'.ownsRow w.heap.size 65 1 v ks.length xs ∧ RdL w' D ks xs ∧ w.grownBy w' none
set_option maxRecDepth 100000 in
set_option maxHeartbeats 2000000 in
theorem storing_any (hD : w.heap[D]? = some (.cells (drC d a c va vc) t (0, 0))) : Calls Tryd.prog 49 #[.pointer (some ⟨D, 0, none⟩)] w fun e w' => PartsEnd D (if d.verb = vb_cas then [0, 3, 1, 4, 5] else [0, 3, 1, 4]) w e w' := by
  have hlt : D < w.heap.size := (Array.getElem?_eq_some_iff.1 hD).1
  obtain ⟨ks, hks⟩ : ∃ ks, ks = if d.verb = vb_cas then [0, 3, 1, 4, 5] else [0, 3, 1, 4] := ⟨_, rfl⟩
  rw [← hks]
  replace hks := hide hks
  obtain ⟨i0, hi, hz0, hz1, hz2⟩ := info_parts info_rd
  obtain ⟨q, hq⟩ : ∃ q, q = w.heap.size := ⟨_, rfl⟩
  obtain ⟨W, hW⟩ : ∃ W, W = w.alloc (.cells #[.pointer (some ⟨D, 0, none⟩)] 59) := ⟨_, rfl⟩
  have g0 : w.grownBy W none := by rw [hW]; exact World.grownBy_alloc _ _ _
  have hWs : W.heap.size = q + 1 := by rw [hW, hq, World.size_alloc]
  have s0 : W.cell? ⟨q, 0, none⟩ = some (.pointer (some ⟨D, 0, none⟩)) := by rw [hW, hq]; exact (Boxed.new w _ _).cell
  have HD := hide hD
  go_enter Tryd.func49, Tryd.ntmps49
  go_wp2
  rw [← hW, ← hq]
  have N0 : Hid (W = W) := rfl
  have hg1 := hide g0
  have HQ := hide hq
  have hWl : q < W.heap.size := by omega
  clear hD g0
  clear hW hq
  have S0 : W.drew.cell? ⟨q, 0, none⟩ = some (.pointer (some ⟨D, 0, none⟩)) := s0
  have hdl : q < W.drew.heap.size := hWl
  have hg2 : Hid (w.grownBy W.drew none) := gr_trans hg1.out (gr_drew W)
  refine region_htail (S := fun W' => W'.cell? ⟨q, 0, none⟩ = some (.pointer (some ⟨D, 0, none⟩))) 8 (by kernel_rfl) (by simp) (by kernel_rfl) ?_
  simp only [List.take_succ_cons, List.take_zero, List.drop_succ_cons, List.drop_zero]
  clear s0 hWl N0 hg1
  generalize W.drew = W2 at *
  refine take_at 0 4 (v := .pointer (some ⟨D, 0, none⟩)) rfl rfl (by kernel_rfl) (by kernel_rfl) (by kernel_rfl) (fun _ _ _ h => h) (Or.inl ⟨by rfl, fun W hW => by go_simp⟩) S0 ?_
  simp only [Act.put, List.setIfInBounds_toArray, List.set_cons_zero, List.set_cons_succ]
  refine take_at 1 5 (v := .func (.func 50) #[.pointer (some ⟨D, 0, none⟩)] #[]) rfl rfl (by kernel_rfl) (by kernel_rfl) (by kernel_rfl) (fun _ _ _ h => h) (Or.inl ⟨by rfl, fun W hW => by go_simp⟩) S0 ?_
  simp only [Act.put, List.setIfInBounds_toArray, List.set_cons_zero, List.set_cons_succ]
  refine take_at 2 6 (v := .func (.func 57) #[] #[.pointer (some ⟨q, 0, none⟩)]) rfl rfl (by kernel_rfl) (by kernel_rfl) (by kernel_rfl) (fun _ _ _ h => h) (Or.inl ⟨by rfl, fun W hW => by go_simp⟩) S0 ?_
  simp only [Act.put, List.setIfInBounds_toArray, List.set_cons_zero, List.set_cons_succ]
  refine take_at 4 8 (v := .pointer (some ⟨D, 0, none⟩)) rfl rfl (by kernel_rfl) (by kernel_rfl) (by kernel_rfl) (fun _ _ _ h => h) (Or.inl ⟨by rfl, fun W hW => by go_simp⟩) S0 ?_
  simp only [Act.put, List.setIfInBounds_toArray, List.set_cons_zero, List.set_cons_succ]
  refine take_at 5 9 (v := .func (.func 48) #[.pointer (some ⟨D, 0, none⟩)] #[]) rfl rfl (by kernel_rfl) (by kernel_rfl) (by kernel_rfl) (fun _ _ _ h => h) (Or.inl ⟨by rfl, fun W hW => by go_simp⟩) S0 ?_
  simp only [Act.put, List.setIfInBounds_toArray, List.set_cons_zero, List.set_cons_succ]
  refine take_at 6 10 (v := .func (.func 58) #[] #[.pointer (some ⟨q, 0, none⟩)]) rfl rfl (by kernel_rfl) (by kernel_rfl) (by kernel_rfl) (fun _ _ _ h => h) (Or.inl ⟨by rfl, fun W hW => by go_simp⟩) S0 ?_
  simp only [Act.put, List.setIfInBounds_toArray, List.set_cons_zero, List.set_cons_succ]
  refine one_at 3 (by kernel_rfl) rfl rfl ?_
  refine oper_call 7 rfl (by go_simp; rfl) (tdec_any 4294967295 (mkB t_bad) 57 q W2) ?_
  rintro e w1 ⟨g1, f1, p1, rfl, k1, B1⟩
  have S1 : w1.cell? ⟨q, 0, none⟩ = some (.pointer (some ⟨D, 0, none⟩)) := (World.cell?_of_block (k1.block q hdl (by simp))).trans S0
  refine ⟨_, rfl, S1, ?_⟩
  simp only [Act.put, List.setIfInBounds_toArray, List.set_cons_zero, List.set_cons_succ]
  refine one_at 7 (by kernel_rfl) rfl rfl ?_
  refine oper_call 11 rfl (by go_simp; rfl) (tdec_any 18446744073709551615 (mkB t_bad) 58 q w1) ?_
  rintro e w2 ⟨g2, f2, p2, rfl, k2, B2⟩
  have S2 : w2.cell? ⟨q, 0, none⟩ = some (.pointer (some ⟨D, 0, none⟩)) := (World.cell?_of_block (k2.block q (Nat.lt_of_lt_of_le hdl k1.size) (by simp))).trans S1
  refine ⟨_, rfl, S2, ?_⟩
  simp only [Act.put, List.setIfInBounds_toArray, List.set_cons_zero, List.set_cons_succ]
  refine wpAnyH_done (by kernel_rfl) ?_ _
  change wpList _ _ _ _ _ _
  have hq := HQ.out
  have gw2 : w.grownBy w2 none := gr_trans hg2.out (gr_trans k1 k2)
  have hql : q < w2.heap.size := Nat.lt_of_lt_of_le hdl (Nat.le_trans k1.size k2.size)
  have hs2 := hg2.out.size
  have hs3 := k1.size
  have hs4 := k2.size
  have R3 : IsRd w1 w1.heap.size D 3 (numV g1 f1 p1) := rdNum (n1 := w.heap.size) (by decide) (by decide) (by decide) rfl rfl hlt hs2 (by omega) (by omega) S1 B1
  have R4 : IsRd w2 w2.heap.size D 4 (numV g2 f2 p2) := rdNum (n1 := w.heap.size) (by decide) (by decide) (by decide) rfl rfl hlt (by omega) (by omega) hql S2 B2
  have RL : RdL w2 D [0, 3, 1, 4] [keyV D, numV g1 f1 p1, expV D, numV g2 f2 p2] := ((((RdL.nil w2 D).cons R4).cons rdExp).cons (R3.up hs4 (Nat.le_refl _) k2)).cons rdKey
  obtain ⟨W3, hW3⟩ : ∃ W3, W3 = w2.alloc (.cells #[.func (.func 50) #[.pointer (some ⟨D, 0, none⟩)] #[], .func (.func 61) #[] #[.pointer (some ⟨g1, 0, none⟩), .pointer (some ⟨f1, 0, none⟩), .pointer (some ⟨p1, 0, none⟩)], .func (.func 48) #[.pointer (some ⟨D, 0, none⟩)] #[], .func (.func 61) #[] #[.pointer (some ⟨g2, 0, none⟩), .pointer (some ⟨f2, 0, none⟩), .pointer (some ⟨p2, 0, none⟩)]] 65) := ⟨_, rfl⟩
  have O3 := own_laid (e := 65) w2 #[.func (.func 50) #[.pointer (some ⟨D, 0, none⟩)] #[], .func (.func 61) #[] #[.pointer (some ⟨g1, 0, none⟩), .pointer (some ⟨f1, 0, none⟩), .pointer (some ⟨p1, 0, none⟩)], .func (.func 48) #[.pointer (some ⟨D, 0, none⟩)] #[], .func (.func 61) #[] #[.pointer (some ⟨g2, 0, none⟩), .pointer (some ⟨f2, 0, none⟩), .pointer (some ⟨p2, 0, none⟩)]] (n := 4) rfl (by decide)
  have g3 := World.grownBy_alloc w2 (.cells #[.func (.func 50) #[.pointer (some ⟨D, 0, none⟩)] #[], .func (.func 61) #[] #[.pointer (some ⟨g1, 0, none⟩), .pointer (some ⟨f1, 0, none⟩), .pointer (some ⟨p1, 0, none⟩)], .func (.func 48) #[.pointer (some ⟨D, 0, none⟩)] #[], .func (.func 61) #[] #[.pointer (some ⟨g2, 0, none⟩), .pointer (some ⟨f2, 0, none⟩), .pointer (some ⟨p2, 0, none⟩)]] 65) none
  rw [← hW3] at O3 g3
  have gw3 := gr_trans gw2 g3
  have RL3 : RdL W3 D [0, 3, 1, 4] [keyV D, numV g1 f1 p1, expV D, numV g2 f2 p2] := RL.on g3
  have S3 := (World.cell?_of_block (a := ⟨q, 0, none⟩) (g3.block q hql (by simp))).trans S2
  have hD3 : W3.heap[D]? = some (.cells (drC d a c va vc) t (0, 0)) := (gw3.block D hlt (by simp)).trans HD.out
  have v3 := dr_verb hD3
  have hql3 : q < W3.heap.size := Nat.lt_of_lt_of_le hql g3.size
  have hle : w.heap.size ≤ W3.heap.size := gw3.size
  obtain ⟨G3, hG3⟩ : ∃ G3, G3 = w2.heap.size := ⟨_, rfl⟩
  rw [← hG3] at O3
  replace O3 : Hid (W3.ownsRow w.heap.size 65 1 (.slice (some ⟨G3, 0, none⟩) 4 4) 4 [keyV D, numV g1 f1 p1, expV D, numV g2 f2 p2]) := ⟨O3.1, by
    rcases O3.2 with h | ⟨g, cap, cur, h1, h2, h3⟩
    · exact .inl h
    · exact .inr ⟨g, cap, cur, h1, by omega, h3⟩⟩
  replace RL3 := hide RL3
  replace RL := hide RL
  have hz3 : Hid (G3 = w2.heap.size ∧ W3.heap.size = G3 + 1 ∧ q < G3 ∧ w.heap.size ≤ G3 ∧ w.heap.size = q) := ⟨hG3, by rw [hW3, hG3, World.size_alloc], by omega, by omega, hq.symm⟩
  replace g3 := hide g3
  replace gw3 := hide gw3
  refine wpList_buildSlice rfl 61 65 4 _ rfl #[.func (.func 50) #[.pointer (some ⟨D, 0, none⟩)] #[], .func (.func 61) #[] #[.pointer (some ⟨g1, 0, none⟩), .pointer (some ⟨f1, 0, none⟩), .pointer (some ⟨p1, 0, none⟩)], .func (.func 48) #[.pointer (some ⟨D, 0, none⟩)] #[], .func (.func 61) #[] #[.pointer (some ⟨g2, 0, none⟩), .pointer (some ⟨f2, 0, none⟩), .pointer (some ⟨p2, 0, none⟩)]] i0 .nilFunc Tryd.underlying61 hi hz0 (by rw [hz1]; decide) (by rw [hz1]; decide) (by rw [hz1]; kernel_rfl) ?_
  rw [← hW3, ← hG3]
  clear hW3 hG3 S2 B2 S1 B1 S0 k1 k2 R3 R4 hql hs2 hs3 hs4 gw2 hg2 hdl hWs HD hD3 hq HQ
  by_cases hv : d.verb = vb_cas
  · have hk := hks.out
    rw [if_pos hv] at hk
    subst hk
    rw [hv] at v3
    simp only [mkB, vb_cas] at v3
    clear hv hks
    go_wp2_with (first
      | (go_at_call 51; refine (tdec_any _ _ _ _ _).mono ?_; rintro e w4 ⟨g4, f4, p4, rfl, k4, B4⟩; have O4 := hide (own_on O3.out k4); have R4 := hide (RL3.out.on k4); have S4 := hide ((World.cell?_of_block (a := ⟨q, 0, none⟩) (k4.block q hql3 (by simp))).trans S3); replace B4 := hide B4; replace k4 := hide k4; have gw4 := hide (gr_trans gw3.out k4.out))
      | (at_builtin; refine wpList_append_own _ rfl _ _ 61 rfl w.heap.size 65 i0 .nilFunc 1 8 Tryd.underlying61 hi hz0 hz1 hz2 rfl (by decide) _ _ _ rfl (O4.out.alloc _) ⟨w4.heap.size, 0, none⟩ 1 1 [numV g4 f4 p4] rfl rfl (cell_one_new _ _ _) (by simp [numV, Value.oneCell']) (by decide) (by decide) (by have := gw4.out.size; simp; omega) ?_; intro v' w5 o5 k5 _))
    go_ret
    obtain ⟨e1, e2, e3, e4, e5⟩ := hz3.out
    have z3 := k4.out.size
    have z4 := k5.size
    rw [World.size_alloc] at z4
    have bl : ∀ b, b < w4.heap.size → b ≠ G3 → w5.heap[b]? = w4.heap[b]? := fun b hb hne => (k5.block b (by rw [World.size_alloc]; omega) (fun e => hne (by cases e; rfl))).trans (Below.heap_alloc _ _ _ hb)
    have g5 : w.grownBy w5 none := ⟨k5.os.trans gw4.out.os, k5.tape.trans gw4.out.tape, k5.output.trans gw4.out.output, by omega, fun b hb _ => (bl b (by omega) (by omega)).trans (gw4.out.block b hb (by simp))⟩
    have g25 : Gr (fun k => k = D ∨ w2.heap.size ≤ k) w2 w5 := ⟨k5.os.trans (k4.out.os.trans g3.out.os), k5.tape.trans (k4.out.tape.trans g3.out.tape), k5.output.trans (k4.out.output.trans g3.out.output), by omega, fun b hb hn => (bl b (by omega) (by omega)).trans ((k4.out.block b (by omega) (by simp)).trans (g3.out.block b hb (by simp)))⟩
    obtain ⟨l1, l2, l3, l4, l5, l6, c1, c2, c3⟩ := B4.out
    have cell : ∀ b v, b < w4.heap.size → b ≠ G3 → w4.cell? ⟨b, 0, none⟩ = some v → w5.cell? ⟨b, 0, none⟩ = some v := fun b v hb hne h => (World.cell?_of_block (bl b hb hne)).trans h
    have n5 : IsRd w5 w5.heap.size D 5 (numV g4 f4 p4) := rdNum (n1 := w.heap.size) (w0 := W3) (by decide) (by decide) (by decide) rfl rfl hlt hle (by omega) (by omega) (cell q _ (by omega) (by omega) S4.out)
      ⟨l1, l2, l3, by omega, by omega, by omega, cell _ _ l4 (by omega) c1, cell _ _ l5 (by omega) c2, cell _ _ l6 (by omega) c3⟩
    exact ⟨v', _, rfl, o5, (RL.out.to g25).app ((RdL.nil w5 D).cons n5), g5⟩
  · have hk := hks.out
    rw [if_neg hv] at hk
    subst hk
    have hvb : (d.verb == [99, 97, 115]) = false := by simpa [vb_cas] using hv
    simp only [mkB] at v3
    clear hv hks
    go_wp2
    go_ret
    exact ⟨_, _, rfl, O3.out, RL3.out, gw3.out⟩
end
end Go.Proofs.YtgekjakihocgnaaDoor
