/- How package textin chooses the readings of a line's words: decimal, keys, storing, parts. Conditions: none. -/
import Derived.Test.YthofdmepofepgaaDoorTextH
namespace Go.Proofs.YthofdmepofepgaaDoor
set_option linter.unusedVariables false
open Go.RowKit

def keyV (D : Nat) : Value := .func (.func 44) #[.pointer (some ⟨D, 0, none⟩)] #[]
def expV (D : Nat) : Value := .func (.func 42) #[.pointer (some ⟨D, 0, none⟩)] #[]
def numV (g f p : Nat) : Value := .func (.func 53) #[] #[.pointer (some ⟨g, 0, none⟩), .pointer (some ⟨f, 0, none⟩), .pointer (some ⟨p, 0, none⟩)]
def keepF (k : Nat) : Nat := if k = 2 then 46 else if k = 3 then 49 else if k = 4 then 50 else 51
def keepV (k q : Nat) : Value := .func (.func (keepF k)) #[] #[.pointer (some ⟨q, 0, none⟩)]
/-- A value that is the reading of kind k. -/
def IsRd (w : World) (n0 D k : Nat) (v : Value) : Prop := (k = 0 ∧ v = keyV D) ∨ (k = 1 ∧ v = expV D) ∨ (2 ≤ k ∧ k ≤ 5 ∧ ∃ g f p q, v = numV g f p ∧ NumBox w n0 D k (keepF k) g f p q)
theorem info_rd : (Tryd.prog.info? 74).map (fun i => (i.zero, i.size, i.bytes)) = some (some .nilFunc, 1, 8) := by kernel_rfl
section
variable {wB w w' : World} {n0 D k q : Nat} {d : Dv}
/-- What decimal answers: a reading, and what it has captured. -/
def DecEnd (z : Int) (fl : ByteArray) (hk q : Nat) (w : World) (e : Ending) (w' : World) : Prop := ∃ g f p, e = .returned (.func (.func 53) #[] #[.pointer (some ⟨g, 0, none⟩), .pointer (some ⟨f, 0, none⟩), .pointer (some ⟨p, 0, none⟩)]) ∧ w.grownBy w' none ∧ (w.heap.size ≤ g ∧ w.heap.size ≤ f ∧ w.heap.size ≤ p ∧ g < w'.heap.size ∧ f < w'.heap.size ∧ p < w'.heap.size ∧
    w'.cell? ⟨g, 0, none⟩ = some (.int .u64 z) ∧ w'.cell? ⟨f, 0, none⟩ = some (.string fl) ∧ w'.cell? ⟨p, 0, none⟩ = some (.func (.func hk) #[] #[.pointer (some ⟨q, 0, none⟩)]))
set_option maxRecDepth 100000 in
set_option maxHeartbeats 1000000 in
theorem tdec_any (z : Int) (fl : ByteArray) (hk q : Nat) (w : World) : Calls Tryd.prog 45 #[.int .u64 z, .string fl, .func (.func hk) #[] #[.pointer (some ⟨q, 0, none⟩)]] w fun e w' => DecEnd z fl hk q w e w' := by
  have g1 := gr_trans (gr_trans (World.grownBy_alloc w (.cells #[.int .u64 z] 36) none) (World.grownBy_alloc _ (.cells #[.string fl] 9) none)) (World.grownBy_alloc _ (.cells #[.func (.func hk) #[] #[.pointer (some ⟨q, 0, none⟩)]] 82) none)
  have H0 := (((Law.start w).box (.cells #[.int .u64 z] 36)).box (.cells #[.string fl] 9)).box (.cells #[.func (.func hk) #[] #[.pointer (some ⟨q, 0, none⟩)]] 82)
  simp only [World.size_alloc] at H0
  have c1 := H0.q.1
  have c2 := H0.q.2.1.1
  have c3 := H0.q.2.1.2.1.1
  have HG := hide g1
  have HC := hide (And.intro c1 (And.intro c2 c3))
  clear g1 H0 c1 c2 c3
  go_enter Tryd.func45, Tryd.ntmps45
  go_wp2
  go_ret
  refine ⟨_, _, _, rfl, HG.out, ?_⟩
  obtain ⟨c1, c2, c3⟩ := HC.out
  refine ⟨Nat.le_refl _, Nat.le_succ _, by omega, (by rw [World.size_alloc, World.size_alloc, World.size_alloc]; omega), (by rw [World.size_alloc, World.size_alloc, World.size_alloc]; omega), (by rw [World.size_alloc, World.size_alloc, World.size_alloc]; omega), ?_, ?_, ?_⟩
  · exact Boxed.cell c3
  · exact Boxed.cell c2
  · exact Boxed.cell c1
/-- A list of readings, each of its kind. -/
def RdL (w : World) (D : Nat) (ks : List Nat) (xs : List Value) : Prop := xs.length = ks.length ∧ ∀ (i k : Nat) (x : Value), ks[i]? = some k → xs[i]? = some x → IsRd w w.heap.size D k x
theorem IsRd.up {n1 : Nat} {v : Value} (h : IsRd w n0 D k v) (hn : n0 ≤ n1) (hw : n0 ≤ w.heap.size) (hg : w.grownBy w' none) : IsRd w' n1 D k v := by
  rcases h with h | h | ⟨h1, h2, g, f, p, q, h3, B⟩
  · exact .inl h
  · exact .inr (.inl h)
  · have B2 := B.on hw (GD.of (n0 := n0) (D := D) hg)
    have hl := B2.lt
    exact .inr (.inr ⟨h1, h2, g, f, p, q, h3, B2.cg, B2.cf, B2.cp, B2.cq, ⟨by omega, by omega, by omega, by omega⟩, B2.ne⟩)
theorem RdL.on {ks : List Nat} {xs : List Value} (h : RdL w D ks xs) (hg : w.grownBy w' none) : RdL w' D ks xs := ⟨h.1, fun i k x h1 h2 => (h.2 i k x h1 h2).up hg.size (Nat.le_refl _) hg⟩
/-- What was there stays but for the draft: the readings that were there are still. -/
theorem RdL.to {ks : List Nat} {xs : List Value} (h : RdL w D ks xs) (hg : Gr (fun k => k = D ∨ w.heap.size ≤ k) w w') : RdL w' D ks xs := ⟨h.1, fun i k x h1 h2 => by
  rcases h.2 i k x h1 h2 with h | h | ⟨h1, h2, g, f, p, q, h3, B⟩
  · exact .inl h
  · exact .inr (.inl h)
  · have B2 := B.on (Nat.le_refl _) hg
    have hl := B2.lt
    have hs := hg.size
    exact .inr (.inr ⟨h1, h2, g, f, p, q, h3, B2.cg, B2.cf, B2.cp, B2.cq, ⟨by omega, by omega, by omega, by omega⟩, B2.ne⟩)⟩
theorem RdL.nil (w : World) (D : Nat) : RdL w D [] [] := ⟨rfl, fun i k x h => by simp at h⟩
theorem RdL.cons {ks : List Nat} {xs : List Value} {v : Value} (h : RdL w D ks xs) (hv : IsRd w w.heap.size D k v) : RdL w D (k :: ks) (v :: xs) := by
  refine ⟨by simp [h.1], fun i k' x h1 h2 => ?_⟩
  cases i with
  | zero =>
    simp at h1 h2
    subst h1 h2
    exact hv
  | succ i => exact h.2 i k' x (by simpa using h1) (by simpa using h2)
theorem RdL.app {ks ks' : List Nat} {xs xs' : List Value} (h : RdL w D ks xs) (h' : RdL w D ks' xs') : RdL w D (ks ++ ks') (xs ++ xs') := by
  refine ⟨by simp [h.1, h'.1], fun i k' x h1 h2 => ?_⟩
  rcases Nat.lt_or_ge i ks.length with hi | hi
  · exact h.2 i k' x (by rwa [List.getElem?_append_left hi] at h1) (by rwa [List.getElem?_append_left (by rw [h.1]; exact hi)] at h2)
  · exact h'.2 (i - ks.length) k' x (by rwa [List.getElem?_append_right hi] at h1) (by rw [List.getElem?_append_right (by rw [h.1]; exact hi), h.1] at h2; exact h2)
theorem rdKey : IsRd w w.heap.size D 0 (keyV D) := .inl ⟨rfl, rfl⟩
theorem rdExp : IsRd w w.heap.size D 1 (expV D) := .inr (.inl ⟨rfl, rfl⟩)
theorem RdL.keys (w : World) (D : Nat) : ∀ n : Nat, RdL w D (List.replicate n 0) (List.replicate n (keyV D))
  | 0 => RdL.nil w D
  | n + 1 => (RdL.keys w D n).cons rdKey
/-- What decimal answered is the reading of a number. -/
theorem rdNum {z : Int} {fl : ByteArray} {hk g f p n1 : Nat} {w0 : World} (h2 : 2 ≤ k) (h5 : k ≤ 5) (hz : (mostK k : Int) = z) (hf : mkB (faultK k) = fl) (hkf : keepF k = hk) (hD : D < n1) (h1 : n1 ≤ w0.heap.size) (hqn : n1 ≤ q) (hq : q < w.heap.size) (cq : w.cell? ⟨q, 0, none⟩ = some (.pointer (some ⟨D, 0, none⟩)))
    (h : w0.heap.size ≤ g ∧ w0.heap.size ≤ f ∧ w0.heap.size ≤ p ∧ g < w.heap.size ∧ f < w.heap.size ∧ p < w.heap.size ∧ w.cell? ⟨g, 0, none⟩ = some (.int .u64 z) ∧ w.cell? ⟨f, 0, none⟩ = some (.string fl) ∧ w.cell? ⟨p, 0, none⟩ = some (.func (.func hk) #[] #[.pointer (some ⟨q, 0, none⟩)])) : IsRd w w.heap.size D k (numV g f p) := by
  obtain ⟨l1, l2, l3, l4, l5, l6, c1, c2, c3⟩ := h
  refine .inr (.inr ⟨h2, h5, g, f, p, q, rfl, by rw [hz]; exact c1, by rw [hf]; exact c2, by rw [hkf]; exact c3, cq, ⟨l4, l5, l6, hq⟩, ⟨by omega, by omega, by omega, by omega⟩⟩)
/-- A row that was just laid. -/
theorem own_laid {e : TypeId} (w : World) (cs : Array Value) {n : Nat} (hn : cs.size = n) (hm : n ≤ maxLen) : (w.alloc (.cells cs e)).ownsRow w.heap.size e 1 (.slice (some ⟨w.heap.size, 0, none⟩) n n) n cs.toList := by
  refine ⟨by simp [hn], .inr ⟨w.heap.size, n, cs, rfl, Nat.le_refl _, World.alloc_heap_new w _, Nat.le_refl _, hm, ?_, ?_⟩⟩
  · simp [hn]
  · subst hn
    rw [Nat.mul_one, ← Array.length_toList, List.take_length]
set_option maxRecDepth 100000 in
set_option maxHeartbeats 2000000 in
theorem keys_any (D n : Nat) (m : Int) (hm : (max m 1) = (n : Int)) (hn : n ≤ 100000) (w : World) : Calls Tryd.prog 41 #[.pointer (some ⟨D, 0, none⟩), .int .i64 m] w fun e w' => ∃ v, e = .returned v ∧ w'.ownsRow w.heap.size 74 1 v n (List.replicate n (keyV D)) ∧ Below w.heap.size w w' := by
  obtain ⟨i0, hi, hz0, hz1, hz2⟩ := info_parts info_rd
  go_enter Tryd.func41, Tryd.ntmps41
  go_wp2
  clear hm
  go_loopw [5, 8] (fun v i wr => ∃ k : Nat, k ≤ n ∧ i = .int .i64 k ∧ wr.ownsRow w.heap.size 74 1 v k (List.replicate k (keyV D)) ∧ Below w.heap.size w wr) (fun _ i _ => n - (intOf i).toNat)
  case atStart => exact ⟨0, Nat.zero_le _, rfl, World.ownsRow_nil _ _ _ _, Below.refl _ _⟩
  case round =>
    obtain ⟨k, hk, rfl, hown, hnx⟩ := hrel
    by_cases hlt : k < n
    · have hki : (k : Int) < (n : Int) := by omega
      have e1 : wrap64 ((k : Int) + 1) = (k : Int) + 1 := by unfold wrap64; omega
      have HO := hide hown
      have HB := hide hnx
      clear hown hnx
      go_wp2_with (at_builtin; refine wpList_append_own _ rfl _ _ 70 rfl w.heap.size 74 i0 .nilFunc 1 8 Tryd.underlying70 hi hz0 hz1 hz2 rfl (by decide) _ _ _ rfl (HO.out.alloc _) ⟨wr.heap.size, 0, none⟩ 1 1 [keyV D] rfl rfl (cell_one_new _ _ _) (by simp [keyV, Value.oneCell']) (by unfold maxLen; omega) (by omega) (by have := HB.out.size; simp; omega) ?_; intro v' w1 o1 g1 _; have b1 : Below w.heap.size w w1 := (HB.out.alloc HB.out.size _).grown g1 (by have := HB.out.size; simp; omega) (fun b hb => (own_at HO.out hb).1))
      go_roundw
      case rel => exact ⟨k + 1, by omega, by go_num, by rw [List.replicate_succ']; exact o1, b1⟩
      case measure => simp [intOf]; omega
    · obtain rfl : k = n := by omega
      have hki : ¬ (k : Int) < (k : Int) := by omega
      go_wp2
      go_ret
      exact ⟨_, rfl, hown, hnx⟩
end
end Go.Proofs.YthofdmepofepgaaDoor
