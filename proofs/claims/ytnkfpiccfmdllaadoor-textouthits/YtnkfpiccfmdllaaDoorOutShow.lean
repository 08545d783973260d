/- What came of a command that asks for no values, told. Conditions: the listed variables hold what the program's text lays. -/
import Derived.Test.YtnkfpiccfmdllaaDoorOutJoin
import Derived.Test.YtnkfpiccfmdllaaDoorOutWord
import Derived.Test.YtnkfpiccfmdllaaDoorG05Joined
namespace Go.Proofs.YtnkfpiccfmdllaaDoor
set_option linter.unusedVariables false
open Go.RowKit

theorem Laid.up {w w' : World} (h : Laid w) (hg : w.grownBy w' none) : Laid w' := h.on (below_gr hg)
theorem show_any {x : Int} (h0 : 0 ≤ x) (h1 : x < 18446744073709551616) (w : World) (hL : Laid w) : Calls Tryd.prog 17 #[.int .u64 x] w fun e w' => e = .returned (.string (mkS (showL x))) ∧ w.grownBy w' none := by
  have h := show_nat x.toNat (by omega) w hL
  rw [Int.toNat_of_nonneg h0] at h
  exact h.mono fun e w' ⟨he, hb⟩ => ⟨he, gr_of_below hb⟩
theorem su_new (w : World) (ws : List ByteArray) (h : ws.length ≤ 100) : Su (w.alloc (.cells (ws.map Value.string).toArray 9)) (some ⟨w.heap.size, 0, none⟩) ws.length ws.length ws := by
  refine ⟨rfl, Nat.le_refl _, by unfold maxLen; omega, .inr ⟨w.heap.size, 0, rfl, by rw [World.size_alloc]; omega, fun i x hi => ?_⟩⟩
  rw [World.cell?_alloc_new, Nat.zero_add, List.getElem?_toArray, List.getElem?_map, hi]
  rfl
theorem su_one (w : World) (s : ByteArray) : Su (w.alloc (.cells #[.string s] 9)) (some ⟨w.heap.size, 0, none⟩) 1 1 [s] := su_new w [s] (by simp)
theorem line_one (s : ByteArray) : lineL [s] = s.data.toList ++ endL := by simp [lineL, Lib.join_one]
/-- Bytes that are answered. -/
def Ans (w : World) (l : List UInt8) (e : Ending) (w' : World) : Prop := ∃ v, e = .returned v ∧ w'.ownsRow w.heap.size 5 1 v l.length (byU l) ∧ w.grownBy w' none
theorem Ans.of {w w1 w' : World} {l : List UInt8} {e : Ending} (hg : w.grownBy w1 none) (h : Told w.heap.size w1 (.slice none 0 0) l e w') : Ans w l e w' := by
  obtain ⟨v, he, ho, g, _⟩ := h
  exact ⟨v, he, ho, gr_trans hg g⟩
theorem Ans.none_ {w w' : World} (hg : w.grownBy w' none) : Ans w [] (.returned (.slice none 0 0)) w' := ⟨_, rfl, World.ownsRow_nil _ _ _ _, hg⟩
section
variable {w : World} {x : Rv} {va : Option Addr} {vc : Nat}
set_option maxRecDepth 100000 in
set_option maxHeartbeats 2000000 in
theorem outcome_any (hL : Laid w) (hx : x.ok) : Calls Tryd.prog 14 #[.agg (rsC x va vc)] w fun e w' => Ans w (outL x) e w' := by
  obtain ⟨i0, hi, hz0, hz1, hz2⟩ := info_parts (show (Tryd.prog.info? 9).map (fun i => (i.zero, i.size, i.bytes)) = some (some (.string ⟨#[]⟩), 1, 16) by kernel_rfl)
  have HS := hide (fun W hW => show_any hx.n0 hx.n1 W hW)
  have hsl := (showL_len hx.n0 hx.n1).1
  have hwl := wordL_few x.s
  have HT := hide (fun (w1 : World) (s : ByteArray) (hg : w.grownBy w1 none) (h : s.size ≤ 1000) => tell_any (base := w.heap.size) (v := .slice none 0 0) (l := []) (World.ownsRow_nil (w1.alloc (.cells #[.string s] 9)) _ _ _) (by rw [World.size_alloc]; have := hg.size; omega) (by decide) (su_one w1 s) (by decide) (by decide) (by rw [line_one]; simp only [List.length_append, endL, List.length_cons, List.length_nil]; have e : s.data.toList.length = s.size := (by rw [Array.length_toList]; rfl); omega))
  have G0 := hide (World.grownBy_alloc w (.cells (rsC x va vc) 38) none)
  simp only [rsC] at G0
  by_cases h7 : x.s = 7
  · have e7 : (x.s == 7) = true := by rw [h7]; rfl
    have eo : outL x = showL x.num ++ endL := by unfold outL; rw [if_pos h7]
    rw [eo]
    simp only [rsC]
    clear h7 eo hx
    go_enter Tryd.func14, Tryd.ntmps14
    go_wp2_with (first
      | (go_at_call 17; refine (HS.out _ (hL.up G0.out)).mono ?_; rintro e w1 ⟨rfl, g1⟩; replace g1 := hide (gr_trans G0.out g1))
      | (go_at_call 15; refine (HT.out w1 (mkS (showL x.num)) g1.out (by rw [mkS_size]; omega)).mono ?_; rintro e w2 h; obtain ⟨v2, rfl, o2, g2, t2⟩ := h; replace o2 := hide o2; replace g2 := hide g2))
    go_ret
    exact ⟨v2, rfl, by have h := o2.out; rw [line_one, List.nil_append, mkS_list] at h; exact h, gr_trans g1.out (gr_trans (World.grownBy_alloc _ _ none) g2.out)⟩
  · have e7 : (x.s == 7) = false := by rw [beq_eq_false_iff_ne]; exact h7
    have HW := hide (fun W => word_any x.s W)
    by_cases hw : wordL x.s = []
    · have eo : outL x = [] := by unfold outL; rw [if_neg h7, if_pos hw]
      have ew : (mkS []).toList.isEmpty = true := mkS_empty []
      rw [eo]
      rw [hw] at HW
      simp only [rsC]
      clear h7 eo hx hw
      go_enter Tryd.func14, Tryd.ntmps14
      go_wp2_with (go_at_call 11; refine (HW.out _).mono ?_; rintro e w1 ⟨rfl, rfl⟩)
      go_ret
      exact Ans.none_ G0.out
    · have eo : outL x = wordL x.s ++ endL := by unfold outL; rw [if_neg h7, if_neg hw]
      rw [eo]
      have ew := list_some hw
      simp only [rsC]
      clear h7 eo hx hw
      go_enter Tryd.func14, Tryd.ntmps14
      go_wp2_with (first
        | (go_at_call 11; refine (HW.out _).mono ?_; rintro e w1 ⟨rfl, hq⟩; have g1 : Hid (w.grownBy w1 none) := hq ▸ G0.out; clear hq)
        | (go_at_call 15; refine (HT.out w1 (mkS (wordL x.s)) g1.out (by rw [mkS_size]; omega)).mono ?_; rintro e w2 h; obtain ⟨v2, rfl, o2, g2, t2⟩ := h; replace o2 := hide o2; replace g2 := hide g2))
      go_ret
      exact ⟨v2, rfl, by have h := o2.out; rw [line_one, List.nil_append, mkS_list] at h; exact h, gr_trans g1.out (gr_trans (World.grownBy_alloc _ _ none) g2.out)⟩
end
end Go.Proofs.YtnkfpiccfmdllaaDoor
