/- What walks of ranges over functions share: a slice that grows in its box, the loops' own records, the last store. Conditions: none. Rows of texts. Conditions: none. Functions of the draft of package textin: begin, isQuiet, exp, key, and the readings of numbers. Conditions: the listed variables hold what the program's text lays; words of at most 140737488351232 bytes. -/
import Derived.RangeFuncNested
import Derived.RangeFuncBound
import Derived.RangeFuncCalls
import Derived.RangeFuncLeaves
import Derived.RangeFuncBox
import Derived.Shelf.Abstract
import Derived.Shelf.RegionOpen
import Derived.OwnWalkIn
import Derived.TacticsInMore
import Derived.LoopNIn
import Derived.LoopIn
import Derived.Maps.AppendAt
import Derived.Laws.AppendOwn
import Derived.Test.YthofdmepofepgaaDoorG00Joined
import Derived.Test.YthofdmepofepgaaDoorParts
import Derived.Test.YthofdmepofepgaaDoorTextD
namespace Go.Proofs.YthofdmepofepgaaDoor
open Go.RowKit Go.Shelf

theorem row_beyond {W : World} {base e size k : Nat} {v : Value} {xs : List Value} (h : W.ownsRow base e size v k xs) {B : Nat} (hB : B < base) : some B ≠ v.ownBlock := by
  rcases h.2 with ⟨rfl, _⟩ | ⟨g, cap, cur, rfl, hg, _⟩
  · simp [Value.ownBlock]
  · intro e'
    have : B = g := by simpa [Value.ownBlock] using e'
    omega

/-- Behind an append to a boxed slice whose row lies beyond all boxes: the store goes through, the box holds the longer slice, the other boxes hold what they held. -/
theorem appended3 {W w1 : World} {n₀ B b : Nat} {t e : TypeId} {size : Nat} {v v' : Value} {k m : Nat} {xs ys : List Value} {tmp : Obj}
    (hv : Boxed W B t v) (hrow : W.ownsRow b e size v k xs) (hn : b ≤ W.heap.size) (hBb : B < b) (h0 : n₀ ≤ B)
    (hown' : w1.ownsRow b e size v' m ys) (hgrow : (W.alloc tmp).grownBy w1 v.ownBlock) :
    Boxed w1 B t v ∧ Boxed (w1.setCell ⟨B, 0, none⟩ v') B t v' ∧ (w1.setCell ⟨B, 0, none⟩ v').ownsRow b e size v' m ys ∧ KeepsOthers W (w1.setCell ⟨B, 0, none⟩ v') ∧ Below n₀ W (w1.setCell ⟨B, 0, none⟩ v') ∧
      (∀ B' t' u, Boxed W B' t' u → B' < b → B' ≠ B → Boxed (w1.setCell ⟨B, 0, none⟩ v') B' t' u) := by
  have hv1 : Boxed w1 B t v := (hv.alloc tmp).kept hgrow (row_beyond hrow hBb)
  refine ⟨hv1, hv1.set v', ownsRow_setCell_below hown' hBb v', ?_, ?_, ?_⟩
  · refine ((KeepsOthers.alloc W tmp).trans (KeepsOthers.of_grownBy hgrow fun j o ej hj => ?_)).trans (KeepsOthers.setCell _ _ _)
    rcases (hrow.alloc tmp).2 with ⟨rfl, _⟩ | ⟨g, cap, cur, rfl, _, hgb, _⟩
    · simp [Value.ownBlock] at ej
    · obtain rfl : g = j := by simpa [Value.ownBlock] using ej
      rw [hgb] at hj; cases hj; rfl
  · refine (((Below.refl n₀ W).alloc (by omega) tmp).grown hgrow (by simp; omega) fun j ej => ?_).setCell (p := ⟨B, 0, none⟩) h0 v'
    rcases hrow.2 with ⟨rfl, _⟩ | ⟨g, cap, cur, rfl, hb, _, _⟩
    · simp [Value.ownBlock] at ej
    · obtain rfl : g = j := by simpa [Value.ownBlock] using ej
      omega
  · intro B' t' u h hb hne
    exact Boxed.other ((h.alloc tmp).kept hgrow (row_beyond hrow hb)) hne v'
theorem deferred_own {β : Type} {D B : Nat} (h : D < B) : OwnFrom B (fun (_ : β) W => W.heap[D]? = some (.deferred (some []))) := fun _ W W' row hs hg hr =>
  (hg.block D (Array.getElem?_eq_some_iff.1 hs).1 (fun e => by have := (hr D e.symm).1; omega)).trans hs

/-- Behind the last store: the answer lies in its cell, and nothing that was there is written. -/
theorem last_store {w W : World} {R D : Nat} {t : TypeId} {b0 b : Bool} (hR : Boxed W R t (.bool b0)) (hD : w.heap.size ≤ D) (hRD : R ≠ D) (hwR : w.heap.size ≤ R) (hB : Below w.heap.size w W) (hK : W.heap[D]? = some (.deferred (some []))) :
    (W.setCell ⟨R, 0, none⟩ (.bool b)).heap[D]? = some (.deferred (some [])) ∧ ((W.setCell ⟨R, 0, none⟩ (.bool b)).putObj D (.deferred none)).cell? ⟨R, 0, none⟩ = some (.bool b) ∧ Below w.heap.size w ((W.setCell ⟨R, 0, none⟩ (.bool b)).putObj D (.deferred none)) := by
  have h1 := (KeepsOthers.setCell W ⟨R, 0, none⟩ (.bool b)).same D _ hK rfl
  refine ⟨h1, ?_, ?_⟩
  · rw [World.cell?_of_block (w := W.setCell ⟨R, 0, none⟩ (.bool b)) (World.putObj_heap_other hRD)]
    exact (hR.set (.bool b)).cell
  · exact (hB.setCell (p := ⟨R, 0, none⟩) hwR (.bool b)).trans (belowK_b (w := w) (Nat.le_refl _) _ D _ _ hD h1 rfl rfl)

/-- The same behind two loops: both records are taken, the inner one's first. -/
theorem last_store2 {w W : World} {R D E : Nat} {t : TypeId} {b0 b : Bool} (hR : Boxed W R t (.bool b0)) (hD : w.heap.size ≤ D) (hE : w.heap.size ≤ E) (hDE : E ≠ D) (hRD : R ≠ D) (hRE : R ≠ E) (hwR : w.heap.size ≤ R) (hB : Below w.heap.size w W) (hK : W.heap[D]? = some (.deferred (some []))) (hE2 : W.heap[E]? = some (.deferred (some []))) :
    (W.setCell ⟨R, 0, none⟩ (.bool b)).heap[D]? = some (.deferred (some [])) ∧ ((W.setCell ⟨R, 0, none⟩ (.bool b)).putObj D (.deferred none)).heap[E]? = some (.deferred (some [])) ∧ (((W.setCell ⟨R, 0, none⟩ (.bool b)).putObj D (.deferred none)).putObj E (.deferred none)).cell? ⟨R, 0, none⟩ = some (.bool b) ∧ Below w.heap.size w (((W.setCell ⟨R, 0, none⟩ (.bool b)).putObj D (.deferred none)).putObj E (.deferred none)) := by
  obtain ⟨h1, h2, h3⟩ := last_store (b := b) hR hD hRD hwR hB hK
  have k1 := (KeepsOthers.setCell W ⟨R, 0, none⟩ (.bool b)).same E _ hE2 rfl
  have k2 : ((W.setCell ⟨R, 0, none⟩ (.bool b)).putObj D (.deferred none)).heap[E]? = some (.deferred (some [])) := (World.putObj_heap_other hDE).trans k1
  refine ⟨h1, k2, ?_, ?_⟩
  · rw [World.cell?_of_block (w := (W.setCell ⟨R, 0, none⟩ (.bool b)).putObj D (.deferred none)) (World.putObj_heap_other hRE)]
    exact h2
  · exact h3.trans (belowK_b (w := w) (Nat.le_refl _) _ E _ _ hE k2 rfl rfl)
end Go.Proofs.YthofdmepofepgaaDoor

namespace Go.Proofs.YthofdmepofepgaaDoor
open Go.RowKit Go.Shelf

theorem info_str : (Tryd.prog.info? 9).map (fun i => (i.zero, i.size, i.bytes)) = some (some (.string ⟨#[]⟩), 1, 16) := by kernel_rfl
/-- Texts as cells. -/
def strV (xs : List ByteArray) : List Value := xs.map Value.string
theorem strV_len (xs : List ByteArray) : (strV xs).length = xs.length := List.length_map _
theorem strV_app (xs : List ByteArray) (x : ByteArray) : strV (xs ++ [x]) = strV xs ++ [.string x] := by simp [strV]
end Go.Proofs.YthofdmepofepgaaDoor

namespace Go.Proofs.YthofdmepofepgaaDoor
set_option linter.unusedVariables false
open Go.RowKit

theorem wcas_cases (v : List UInt8) : (v = vb_gets ∧ (begun v).wcas = true) ∨ ((v == vb_gets) = false ∧ v = vb_gats ∧ (begun v).wcas = true) ∨ ((v == vb_gets) = false ∧ (v == vb_gats) = false ∧ (begun v).wcas = false) := by
  by_cases h1 : v = vb_gets
  · exact .inl ⟨h1, by simp [begun, h1]⟩
  · by_cases h2 : v = vb_gats
    · exact .inr (.inl ⟨by simpa using h1, h2, by simp [begun, h2]⟩)
    · exact .inr (.inr ⟨by simpa using h1, by simpa using h2, by simp [begun, h1, h2]⟩)
section
variable {wB w : World} {n0 D : Nat} {d : Dv}
set_option maxRecDepth 100000 in
set_option maxHeartbeats 2000000 in
theorem begin_any (H : Dr wB n0 D w zeroD) (v : List UInt8) : Calls Tryd.prog 32 #[.pointer (some ⟨D, 0, none⟩), .string (mkB v)] w fun e w' => e = .returned (.bool (opN v).isSome) ∧ Dr wB n0 D w' (begun v) ∧ GD n0 D w w' := by
  obtain ⟨a, c, h1, h2⟩ := H.st
  have HO := hide (fun W => opOf_any v W)
  obtain ⟨op, hop⟩ : ∃ op, op = (opN v).getD 0 := ⟨_, rfl⟩
  rw [← hop] at HO
  obtain ⟨is, his⟩ : ∃ is, is = (opN v).isSome := ⟨_, rfl⟩
  rw [← his] at HO ⊢
  obtain ⟨K1, G1⟩ := H.set (d' := { zeroD with op := op }) h1 h2 10 (.int .i64 op) rfl rfl (set_op _ _ _ _ _ _)
  obtain ⟨a1, c1, q1, q2⟩ := K1.st
  obtain ⟨K2, G2⟩ := K1.setF (d' := begun v) q1 (fmD (begun v) none 0).toList rfl rfl (by rw [set_form, hop]; rfl)
  have cop := dr_op h1
  have fop := dr_frozen h1 10
  have ht := dr_thereF q1
  have HK := hide (And.intro K2 (G1.trans G2))
  clear K1 K2 G1 G2 H h1 h2 q1 q2 hop his
  rcases wcas_cases v with ⟨rfl, -⟩ | ⟨e1, rfl, -⟩ | ⟨e1, e2, hw⟩
  · simp only [mkB, vb_gets] at *
    go_enter Tryd.func32, Tryd.ntmps32
    go_wp2_with (first
      | (go_at_call 40; refine (HO.out _).mono ?_; rintro e w1 ⟨rfl, rfl⟩)
      | (refine wpList_store_mid rfl 28 _ _ rfl D 0 (fmD (begun vb_gets) none 0) rfl rfl ht (fm_size _ _ _) (fm_one _ _ _) ?_))
    go_ret
    exact ⟨rfl, HK.out⟩
  · simp only [mkB, vb_gats, vb_gets] at *
    go_enter Tryd.func32, Tryd.ntmps32
    go_wp2_with (first
      | (go_at_call 40; refine (HO.out _).mono ?_; rintro e w1 ⟨rfl, rfl⟩)
      | (refine wpList_store_mid rfl 28 _ _ rfl D 0 (fmD (begun vb_gats) none 0) rfl rfl ht (fm_size _ _ _) (fm_one _ _ _) ?_))
    go_ret
    exact ⟨rfl, HK.out⟩
  · have hf : Hid (fmD (begun v) none 0 = #[.int .i64 1, .string ⟨v.toArray⟩, .int .i64 0, .int .u32 0, .bool false, .bool false, .string ⟨#[]⟩, .slice none 0 0, .slice none 0 0, .bool false]) := by show _ = _; unfold fmD; rw [hw]; rfl
    clear hw
    simp only [mkB, vb_gats, vb_gets] at *
    go_enter Tryd.func32, Tryd.ntmps32
    go_wp2_with (first
      | (go_at_call 40; refine (HO.out _).mono ?_; rintro e w1 ⟨rfl, rfl⟩)
      | (refine wpList_store_mid rfl 28 _ _ rfl D 0 (fmD (begun v) none 0) rfl (by rw [hf.out]; rfl) ht (fm_size _ _ _) (fm_one _ _ _) ?_))
    go_ret
    exact ⟨rfl, HK.out⟩
end
end Go.Proofs.YthofdmepofepgaaDoor
