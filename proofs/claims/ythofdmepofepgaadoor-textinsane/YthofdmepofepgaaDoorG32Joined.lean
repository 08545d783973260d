/- Words of package num: the words of the line, one by one, as long as one goes on. Conditions: the line takes at most 140737488351232 bytes. The words of a line, gathered by package lined. Conditions: the line takes at most 5000 bytes. -/
import Derived.RangeFuncNested
import Derived.RangeFuncBound
import Derived.RangeFuncCalls
import Derived.RangeFuncLeaves
import Derived.RangeFuncBox
import Derived.Shelf.Abstract
import Derived.Shelf.RegionOpen
import Derived.WalkKit
import Derived.OwnWalkIn
import Derived.TacticsInMore
import Derived.LoopNIn
import Derived.LoopIn
import Derived.Maps.AppendAt
import Derived.Test.YthofdmepofepgaaDoorG02Joined
import Derived.Test.YthofdmepofepgaaDoorG13Joined
namespace Go.Proofs.YthofdmepofepgaaDoor
open Go.RowKit Go.Shelf
attribute [local go_sem] Oper.semAt_some

/-- The line's box holds what it held. -/
def BoxKept (Bs : Nat) (W W' : World) : Prop := W'.cell? ⟨Bs, 0, none⟩ = W.cell? ⟨Bs, 0, none⟩

set_option maxRecDepth 100000 in
set_option maxHeartbeats 2000000 in
theorem words1_in (F : Fence) (n : Nat) (h29 : F.fn 38) (hro : F.round = none) (hn : 1 ≤ n) (l Bs : Nat) (s : ByteArray) (hs : s.size ≤ 140737488351232) (J Jx : List ByteArray → World → Prop)
    (hY : ∀ pre x W, J pre W → pre.length < (wordsB s).length → YieldAt F (n - 1) Tryd.prog l #[.string x] W fun e W' =>
      (e = .returned (.bool true) ∧ J (pre ++ [x]) W' ∧ BoxKept Bs W W') ∨ (e = .returned (.bool false) ∧ Jx (pre ++ [x]) W'))
    (W : World) (hBs : W.cell? ⟨Bs, 0, none⟩ = some (.string s)) (h0 : J [] W) :
    CallsIn F n Tryd.prog 38 #[.func (.yield l) #[] #[], .pointer (some ⟨Bs, 0, none⟩)] W fun e W' => (∃ v, e = .returned v) ∧
      ((∃ ys, ys = wordsB s ∧ J ys W') ∨ (∃ pre, pre <+: wordsB s ∧ Jx pre W')) := by
  have HL : Hid (s.data.toList.length = s.size) := size_list s
  refine callsIn_of_wp Tryd.func38 rfl h29 ?_ hro
  simp only [Tryd.ntmps38, List.size_toArray, List.length_cons, List.length_nil, Nat.reduceAdd, Nat.reduceSub, Array.replicate_succ, Array.replicate_zero, List.push_toArray, List.append_toArray, List.nil_append, List.cons_append]
  gi_wp2
  gi_loopw [3, 8] (fun st i wr => ∃ (k a : Nat) (pre : List ByteArray), k ≤ s.size + 1 ∧ a ≤ k ∧ i = .int .i64 k ∧ st = .int .i64 a ∧ Hid (wordsB s = pre ++ restW s a k) ∧ wr.cell? ⟨Bs, 0, none⟩ = some (.string s) ∧ J pre wr)
    (fun _ i _ => s.size + 1 - (intOf i).toNat)
  case atStart => exact ⟨0, 0, [], Nat.zero_le _, Nat.le_refl _, rfl, rfl, rfl, hBs, h0⟩
  case round =>
    obtain ⟨k, a, pre, hk, hak, rfl, rfl, HR, hc, hJ⟩ := hrel
    clear hBs h0
    by_cases hlt : k < s.size + 1
    · by_cases hgo : ∃ h : k < s.size, (s[k]'h) ≠ 32
      · obtain ⟨hks, hne⟩ := hgo
        have HS : Hid (wordsB s = pre ++ restW s a (k + 1)) := by
          have h1 := restL_go s.data.toList a k (by rw [HL.out]; exact hks) hak hne
          show _ = _
          rw [HR.out]
          unfold restW
          rw [h1]
        obtain ⟨c, hcc⟩ : ∃ c : Int, c = ((s[k]'hks).toNat : Int) := ⟨_, rfl⟩
        have hcn : ¬ c = 32 := by
          intro e
          apply hne
          apply UInt8.toNat_inj.1
          have : ((32 : UInt8).toNat : Int) = 32 := by decide
          omega
        have hcb : (c != 32) = true := by simpa using hcn
        have hc' : ((s[k]'hks).toNat : Int) = c := hcc.symm
        clear hcc hne
        gi_wp2
        go_roundw
        case rel => exact ⟨k + 1, a, pre, by omega, by omega, by go_num, rfl, HS, hc, hJ⟩
        case measure => simp [intOf]; omega
      · have hbl : ∀ h : k < s.data.toList.length, s.data.toList[k] = 32 := by
          intro h
          have h' : k < s.size := by rw [← HL.out]; exact h
          have := not_exists.1 hgo h'
          have e : (s[k]'h') = 32 := by simpa using this
          exact e
        have hkl : k ≤ s.data.toList.length := by rw [HL.out]; omega
        have hst : (∃ h : k < s.size, ((s[k]'h).toNat : Int) = 32) ∨ ¬ k < s.size := by
          by_cases h : k < s.size
          · left
            refine ⟨h, ?_⟩
            have := not_exists.1 hgo h
            have e : (s[k]'h) = 32 := by simpa using this
            rw [e]; rfl
          · right; exact h
        by_cases hw : a < k
        · obtain ⟨x, hx⟩ : ∃ x, x = s.extract a k := ⟨_, rfl⟩
          have HS : Hid (wordsB s = (pre ++ [x]) ++ restW s (k + 1) (k + 1)) := by
            have h1 := restL_word s.data.toList a k hkl hw hbl
            show _ = _
            rw [HR.out]
            unfold restW
            rw [h1, List.map_cons, hx, extract_mk]
            simp
          have hplen : pre.length < (wordsB s).length := by
            have := congrArg List.length HS.out
            simp at this
            omega
          obtain ⟨fn, tmps, assign, body, hy, hR⟩ := hY pre x wr hJ hplen
          have hsl : ∀ W, (Instr.slice 9 (.string s) (some (.int .i64 a)) (some (.int .i64 k)) none).run Tryd.prog W = .ok (.string x) W := fun W => by
            rw [run_slice_string W 9 s .i64 .i64 a k Tryd.underlying9 (by omega) (by omega) (by omega), hx]
            simp
          clear hbl hgo hkl hplen hx
          rcases hst with ⟨hks, h32⟩ | hks
          all_goals
            gi_wp2
            refine hR.mono ?_
            rintro e W3 (⟨rfl, hJ3, hk3⟩ | ⟨rfl, hJx3⟩)
            · have hc3 : W3.cell? ⟨Bs, 0, none⟩ = some (.string s) := Eq.trans hk3 hc
              gi_wp2
              go_roundw
              case rel => exact ⟨k + 1, k + 1, pre ++ [x], by omega, by omega, by go_num, by go_num, HS, hc3, hJ3⟩
              case measure => simp [intOf]; omega
            · gi_wp2
              refine bodyPost_ret (results_none rfl _ _ _) rfl ?_
              exact ⟨⟨_, rfl⟩, .inr ⟨pre ++ [x], ⟨_, HS.out.symm⟩, hJx3⟩⟩
        · have HS : Hid (wordsB s = pre ++ restW s (k + 1) (k + 1)) := by
            have h1 := restL_skip s.data.toList a k hkl (by omega) hbl
            show _ = _
            rw [HR.out]
            unfold restW
            rw [h1]
          have hak2 : a = k := by omega
          subst hak2
          clear hbl hgo hkl
          rcases hst with ⟨hks, h32⟩ | hks
          all_goals
            gi_wp2
            refine ⟨fun _ h => (by cases h), ?_⟩
            gi_wp2
            go_roundw
            case rel => exact ⟨a + 1, a + 1, pre, by omega, by omega, by go_num, by go_num, HS, hc, hJ⟩
            case measure => simp [intOf]; omega
    · have HE : Hid (wordsB s = pre) := by
        have h1 := restL_end s.data.toList a k (by rw [HL.out]; omega)
        show _ = _
        rw [HR.out]
        unfold restW
        rw [h1]
        simp
      gi_wp2
      go_end0
      exact ⟨⟨_, rfl⟩, .inl ⟨pre, HE.out.symm, hJ⟩⟩

set_option maxHeartbeats 1000000 in
theorem wordsMk_in (F : Fence) (n : Nat) (h25 : F.fn 30) (hro : F.round = none) (s : ByteArray) (w : World) :
    CallsIn F n Tryd.prog 30 #[.string s] w fun e w' => e = .returned (.func (.func 38) #[] #[.pointer (some ⟨w.heap.size, 0, none⟩)]) ∧ w' = w.alloc (.cells #[.string s] 9) := by
  refine callsIn_of_wp Tryd.func30 rfl h25 ?_ hro
  simp only [Tryd.ntmps30, List.size_toArray, List.length_cons, List.length_nil, Nat.reduceAdd, Nat.reduceSub, Array.replicate_succ, Array.replicate_zero, List.push_toArray, List.append_toArray, List.nil_append, List.cons_append]
  gi_wp2
  go_ret
  exact ⟨rfl, rfl⟩

/-- What Words hands back tells all the words, or as many as one goes on with. -/
theorem words_stops (F : Fence) (n : Nat) (h29 : F.fn 38) (hro : F.round = none) (hn : 1 ≤ n) (Bs : Nat) (s : ByteArray) (hs : s.size ≤ 140737488351232) (w : World) (hBs : Bs < w.heap.size) (hc : w.cell? ⟨Bs, 0, none⟩ = some (.string s)) :
    SeqStopsK F n Tryd.prog 38 #[.pointer (some ⟨Bs, 0, none⟩)] (fun x : ByteArray => #[Value.string x]) (BoxKept Bs) (fun ys => ys = wordsB s) (fun pre => pre <+: wordsB s) (wordsB s).length w := fun l J Jx W hW _ _ hY h0 =>
  words1_in F n h29 hro hn l Bs s hs J Jx hY W ((hW.cell (p := ⟨Bs, 0, none⟩) hBs).trans hc) h0
end Go.Proofs.YthofdmepofepgaaDoor

namespace Go.Proofs.YthofdmepofepgaaDoor
set_option linter.unusedVariables false
open Go.RowKit Go.Shelf
attribute [local go_sem] Oper.semAt_some

theorem boxKept_b {Bs : Nat} {w : World} (h : Bs < w.heap.size) : ∀ (W : World) (l : Nat) (o o' : Obj), w.heap.size ≤ l → W.heap[l]? = some o → o.isCells = false → o.isWalk = false → BoxKept Bs W (W.putObj l o') := fun W l o o' hl _ _ _ => by
  unfold BoxKept
  exact World.cell?_of_block (w := W) (World.putObj_heap_other (show Bs ≠ l by omega))
theorem boxKept_t {Bs : Nat} {A B C : World} (h : BoxKept Bs A B) (k : BoxKept Bs B C) : BoxKept Bs A C := Eq.trans k h
set_option maxRecDepth 100000 in
set_option maxHeartbeats 4000000 in
theorem gather_any (s : ByteArray) (hs : s.size ≤ 5000) (w : World) :
    Calls Tryd.prog 19 #[.string s] w fun e W' => ∃ v, e = .returned v ∧ W'.ownsRow w.heap.size 9 1 v (wordsB s).length ((wordsB s).map Value.string) ∧ Below w.heap.size w W' := by
  refine (callsIn_wide (n := 6)).1 ?_
  have hlen := wordsB_len s
  obtain ⟨i0, hi, hz0, hz1, hz2⟩ := info_parts info_str
  refine callsIn_of_wp_marks Tryd.func19 rfl trivial ?_ rfl
  simp only [Tryd.ntmps19, List.size_toArray, List.length_cons, List.length_nil, Nat.reduceAdd, Nat.reduceSub, Array.replicate_succ, Array.replicate_zero, List.push_toArray, List.append_toArray, List.nil_append, List.cons_append]
  gi_wp2_with (refine ⟨trivial, ?_⟩; gi_at_call 30; refine (wordsMk_in Fence.wide (6 - 1) trivial rfl s _).mono ?_; rintro e w' ⟨rfl, rfl⟩)
  have bO := Boxed.new w 26 (.slice none 0 0)
  have bS := Boxed.new (w.alloc (.cells #[.slice none 0 0] 26)) 9 (.string s)
  simp only [World.size_alloc] at bO bS
  have hB0 : Below w.heap.size w ((w.alloc (.cells #[.slice none 0 0] 26)).alloc (.cells #[.string s] 9)) := ((Below.refl _ w).alloc (Nat.le_refl _) _).alloc (by simp) _
  refine wpIn_rangeFunc_ownG rfl (by decide) (gf := 38) (lb := #[.pointer (some ⟨w.heap.size + 1, 0, none⟩)]) rfl trivial (enters_of Tryd.func38 (by kernel_rfl) rfl)
    (words_stops Fence.wide (6 - 1) trivial rfl (by decide) (w.heap.size + 1) s (by omega) _ (by simp) bS.cell) boxKept_t (boxKept_b (by simp)) (Below.refl _ _) (fun _ => rfl)
    (fun pre W => ((∃ v, Boxed W w.heap.size 26 v ∧ W.ownsRow (w.heap.size + 2) 9 1 v pre.length (pre.map Value.string) ∧ True) ∧ Boxed W (w.heap.size + 1) 9 (.string s)) ∧ Below w.heap.size w W)
    (fun c pre W => False)
    (OwnFrom.and (OwnFrom.and (Own.from (holdsRow_own (w.heap.size + 2) w.heap.size 26 9 1 (fun pre : List ByteArray => pre.length) (fun pre => pre.map Value.string) (fun _ _ => True)) _) (Own.from (boxed_own (w.heap.size + 1) 9 (fun _ => .string s)) _)) (ownFrom_below (Nat.le_refl _) (by simp; omega)))
    (fun c => ownFrom_pure _ _)
    ⟨⟨⟨_, bO.alloc _, World.ownsRow_nil _ _ _ _, trivial⟩, bS⟩, hB0⟩
    (fun x => { tmps := #[.string s, undef, .slice none 0 0, .pointer (some ⟨w.heap.size, 0, none⟩), .string x, .string s, .func (.func 38) #[] #[.pointer (some ⟨w.heap.size + 1, 0, none⟩)], .string x, undef, undef, undef, undef, undef], defers := [] }) ?assign ?body ?done ?stop
  case assign =>
    intro l x W K hK
    gi_wp2
    exact hK
  case body =>
    rintro l pre x W ⟨⟨⟨v, hv, hrow, -⟩, hbs⟩, hB⟩ hltN
    have hc := hv.cell
    have hsz : w.heap.size + 2 ≤ W.heap.size := by have := hbs.lt; omega
    gi_wp2_with (gi_at_builtin; refine wpListIn_append_own _ rfl _ _ 26 rfl (w.heap.size + 2) 9 i0 (.string ⟨#[]⟩) 1 16 Tryd.underlying26 hi hz0 hz1 hz2 rfl (by decide) _ _ _ rfl (hrow.alloc _) ⟨W.heap.size, 0, none⟩ 1 1 [.string x] rfl rfl (cell_one_new _ _ _) (by simp [Value.oneCell']) (by unfold maxLen; omega) (by omega) (by simp; omega) ?_; intro v' w1 hown' hgrow _; obtain ⟨g', cap', rfl⟩ := ownsRow_succ hown'; obtain ⟨hv1, hv2, hr2, hk2, hb2, hoth⟩ := appended3 (n₀ := w.heap.size) hv hrow hsz (by omega) (by omega) hown' hgrow; have hc1 := hv1.cell; have hf1 := hv1.frozen; have hbs2 := hoth _ _ _ hbs (by omega) (by omega); have hcv2 := hv2.cell)
    exact ⟨hk2.from _, hbs2.cell.trans hbs.cell.symm, ⟨⟨_, hv2, by simpa using hr2, trivial⟩, hbs2⟩, hB.trans hb2⟩
  case done =>
    rintro D ys W hD rfl ⟨⟨⟨v, hv, hrow, -⟩, hbs⟩, hB⟩ hK
    have hc := hv.cell
    gi_wp2
    refine ⟨by simp, .inl ⟨_, _, rfl, run_takeDeferred hK, ?_⟩⟩
    exact ⟨_, results_tmp rfl _ _ _, v, rfl, own_base (ownsRow_putObj hrow _ hK rfl) (by omega), hB.trans (belowK_b (w := w) (Nat.le_refl _) W D _ _ (by simp at hD; omega) hK rfl rfl)⟩
  case stop =>
    rintro D c pre W hD hpre h hK
    exact h.elim
end Go.Proofs.YthofdmepofepgaaDoor
