/- The chapter's example. Conditions: the listed variables hold what the program's text lays. -/
import Derived.Test.YtnkfpiccfmdllaaDoorOutEnc
import Derived.Lib.SmallJoins
namespace Go.Proofs.YtnkfpiccfmdllaaDoor
set_option linter.unusedVariables false
open Go.RowKit Go.Shelf

def awC1 : Cv := ⟨0, ⟨#[97]⟩, [], 0, 0, 0, 0, 0, false, false⟩
def awQ1 : Qv := ⟨[awC1], noF⟩
def awX1 : Rv := ⟨0, [120, 121], 1, 0, 0, 0, false, false, false⟩
theorem aw_show : showL 1 = [49] ∧ showL 2 = [50] := by
  unfold showL
  rw [show (1 : Int).toNat = 1 from rfl, show (2 : Int).toNat = 2 from rfl, Lib.decDigits_one (by decide), Lib.decDigits_one (by decide)]
  exact ⟨rfl, rfl⟩
theorem aw_enc : encL awQ1 [awX1] = [86, 65, 76, 85, 69, 32, 97, 32, 49, 32, 50, 13, 10, 120, 121, 13, 10, 69, 78, 68, 13, 10] := by
  show hitsL [awC1] [awX1] false ++ (tailL ++ endL) = _
  simp only [hitsL, hitL, awX1, if_true, headL_eq]
  rw [show ((([120, 121] : List UInt8).length : Nat) : Int) = 2 from rfl, aw_show.1, aw_show.2]
  rfl
/-- The example's blocks. -/
def awA : Obj := .cells #[.int .i64 0, .string ⟨#[97]⟩, .slice none 0 0, .int .u32 0, .int .i64 0, .int .u64 0, .int .u64 0, .int .u64 0, .bool false, .bool false] 36
def awB (n : Nat) : Obj := .cells #[.slice (some ⟨n, 0, none⟩) 1 1, .int .i64 0, .string ⟨#[]⟩, .int .i64 0, .int .u32 0, .bool false, .bool false, .string ⟨#[]⟩, .slice none 0 0, .slice none 0 0, .bool false] 28
def awX (n : Nat) : Obj := .cells #[.int .i64 0, .slice (some ⟨n + 1 + 1, 0, none⟩) 2 2, .int .u32 1, .int .u64 0, .int .i64 0, .int .u64 0, .bool false, .bool false, .bool false] 38
def awV : Obj := .cells #[.int .u8 120, .int .u8 121] 5 (2, 3)
def awW (w : World) : World := (((w.alloc awA).alloc (awB w.heap.size)).alloc awV).alloc (awX w.heap.size)
theorem awW_gr (w : World) : w.grownBy (awW w) none := gr_trans (World.grownBy_alloc _ _ _) (gr_trans (World.grownBy_alloc _ _ _) (gr_trans (World.grownBy_alloc _ _ _) (World.grownBy_alloc _ _ _)))
theorem range_new {w : World} {g : Nat} {cs : Array Value} {t : TypeId} {fr : Nat × Nat} (h : w.heap[g]? = some (.cells cs t fr)) : w.rangeAt g 0 cs.toList := fun j v hv => by
  rw [Nat.zero_add]
  unfold World.cell?
  rw [h]
  rw [Array.getElem?_toList] at hv
  exact hv
theorem awW_blocks (w : World) : (awW w).heap[w.heap.size]? = some awA ∧ (awW w).heap[w.heap.size + 1 + 1]? = some awV ∧ (awW w).heap[w.heap.size + 1 + 1 + 1]? = some (awX w.heap.size) ∧ (awW w).heap.size = w.heap.size + 4 := by
  obtain ⟨W1, h1⟩ : ∃ W1, W1 = w.alloc awA := ⟨_, rfl⟩
  obtain ⟨W2, h2⟩ : ∃ W2, W2 = W1.alloc (awB w.heap.size) := ⟨_, rfl⟩
  obtain ⟨W3, h3⟩ : ∃ W3, W3 = W2.alloc awV := ⟨_, rfl⟩
  obtain ⟨W4, h4⟩ : ∃ W4, W4 = W3.alloc (awX w.heap.size) := ⟨_, rfl⟩
  have e : awW w = W4 := by rw [h4, h3, h2, h1]; rfl
  have s1 : W1.heap.size = w.heap.size + 1 := by rw [h1, World.size_alloc]
  have s2 : W2.heap.size = w.heap.size + 1 + 1 := by rw [h2, World.size_alloc, s1]
  have s3 : W3.heap.size = w.heap.size + 1 + 1 + 1 := by rw [h3, World.size_alloc, s2]
  have b1 : W1.heap[w.heap.size]? = some awA := by rw [h1]; exact World.alloc_heap_new w _
  have b3 : W3.heap[w.heap.size + 1 + 1]? = some awV := by rw [h3, ← s2]; exact World.alloc_heap_new W2 _
  have b4 : W4.heap[w.heap.size + 1 + 1 + 1]? = some (awX w.heap.size) := by rw [h4, ← s3]; exact World.alloc_heap_new W3 _
  have g34 : W3.grownBy W4 none := by rw [h4]; exact World.grownBy_alloc _ _ _
  have g12 : W1.grownBy W2 none := by rw [h2]; exact World.grownBy_alloc _ _ _
  have g23 : W2.grownBy W3 none := by rw [h3]; exact World.grownBy_alloc _ _ _
  have g14 : W1.grownBy W4 none := gr_trans g12 (gr_trans g23 g34)
  rw [e]
  exact ⟨(g14.block _ (by omega) (by simp)).trans b1, (g34.block _ (by omega) (by simp)).trans b3, b4, by rw [h4, World.size_alloc, s3]⟩
theorem aw_start (w : World) : QAt (awW w) awQ1 (some ⟨w.heap.size, 0, none⟩) 1 none 0 none 0 ∧ Ru (awW w) (some ⟨w.heap.size + 1 + 1 + 1, 0, none⟩) 1 1 [awX1] := by
  obtain ⟨b1, b2, b3, hs⟩ := awW_blocks w
  have one : ∀ {α : Type} {a b : α} {i : Nat}, [a][i]? = some b → i = 0 ∧ b = a := fun {α a b i} h => by
    cases i with
    | zero => exact ⟨rfl, (Option.some.inj h).symm⟩
    | succ i => simp at h
  have hm : (1 : Nat) ≤ maxLen := by decide
  refine ⟨⟨⟨rfl, Nat.le_refl _, hm, .inr ⟨w.heap.size, 0, rfl, by omega, fun i c hi => ?_⟩⟩, Su.none_ _, Su.none_ _⟩, ⟨rfl, Nat.le_refl _, hm, fun x hx => ?_, .inr ⟨w.heap.size + 1 + 1 + 1, 0, rfl, by omega, fun i c hi => ?_⟩⟩⟩
  · obtain ⟨rfl, rfl⟩ := one hi
    exact ⟨none, 0, range_new b1, rfl, .inl ⟨rfl, rfl, fun _ => rfl⟩, Nat.le_refl _, Nat.zero_le _⟩
  · obtain rfl : x = awX1 := by simpa using hx
    exact ⟨by decide, by decide, by decide, by decide, by decide, by decide⟩
  · obtain ⟨rfl, rfl⟩ := one hi
    refine ⟨some ⟨w.heap.size + 1 + 1, 0, none⟩, 2, range_new b3, rfl, .inr ⟨w.heap.size + 1 + 1, 0, rfl, by decide, by decide, rfl, ints_byt _, fun i hi => ?_, by omega⟩, by decide, by decide⟩
    have hr := range_new (by exact b2 : (awW w).heap[w.heap.size + 1 + 1]? = some (.cells #[.int .u8 120, .int .u8 121] 5 (2, 3)))
    match i, hi with
    | 0, _ => exact hr 0 _ rfl
    | 1, _ => exact hr 1 _ rfl
/-- An answer, opened. -/
theorem Ans.open {w w' : World} {l : List UInt8} {e : Ending} (h : Ans w l e w') : ∃ a c, e = .returned (.slice a l.length c) ∧ Bu w' a l.length c l ∧ w.grownBy w' none := by
  obtain ⟨v, rfl, o, g⟩ := h
  obtain ⟨a, c, rfl⟩ := own_shape o
  exact ⟨a, c, rfl, ValAt.bu o, g⟩
theorem aw_few : FewR awQ1 [awX1] := by
  refine ⟨by decide, by decide, fun c hc => ?_, fun x hx => ?_⟩
  · obtain rfl : c = awC1 := by simpa [awQ1] using hc
    show (⟨#[97]⟩ : ByteArray).size ≤ 1000
    decide
  · obtain rfl : x = awX1 := by simpa using hx
    decide
set_option maxRecDepth 100000 in
set_option maxHeartbeats 4000000 in
theorem awake_any {w : World} (hL : Laid w) : Calls Tryd.prog 7 #[] w fun e w' => e = .returned (.bool true) ∧ w.grownBy w' none := by
  have hcv := Joins.run_convert_bytes_const_at (P := Tryd.prog) ((w.alloc awA).alloc (awB w.heap.size)) 32 5 #[.int .u8 120, .int .u8 121] 2 2 (w.heap.size + 1 + 1) (by simp [World.size_alloc]) Tryd.underlying32 Tryd.underlying5
  obtain ⟨hq, hx⟩ := aw_start w
  have hf := aw_few
  have HE := hide (encode_any (hL.up (awW_gr w)) hq hx hf)
  obtain ⟨L5, hL5⟩ : ∃ L, L = encL awQ1 [awX1] := ⟨_, rfl⟩
  rw [← hL5] at HE
  have e9 : ((mkS L5).toList == [86, 65, 76, 85, 69, 32, 97, 32, 49, 32, 50, 13, 10, 120, 121, 13, 10, 69, 78, 68, 13, 10]) = true := by rw [mkS_toList, hL5, aw_enc]; decide
  have e10 : ((mkS [79, 75]).toList == [79, 75]) = true := by rw [mkS_toList]; decide
  have HW := hide (fun W => word_any 10 W)
  rw [wordL_10] at HW
  have HG := hide (awW_gr w)
  simp only [awA, awB] at hcv
  clear hq hx hf hL5
  go_enter Tryd.func7, Tryd.ntmps7
  go_wp2_with (first
    | (go_at_call 9; refine Calls.mono HE.out ?_; rintro e w5 h5; obtain ⟨a5, c5, rfl, b5, g5⟩ := h5.open; have hc5 := conv_bu b5; replace b5 := hide b5; replace g5 := hide g5)
    | (go_at_call 11; refine (HW.out _).mono ?_; rintro e w6 ⟨rfl, rfl⟩))
  go_ret
  exact ⟨rfl, gr_trans HG.out g5.out⟩
end Go.Proofs.YtnkfpiccfmdllaaDoor
