/- Words of package num: the words of the line, one by one, as long as one goes on. Conditions: the line takes at most 140737488351232 bytes. The words of a line, gathered by package lined. Conditions: the line takes at most 5000 bytes. Package lined's Parse, where no line is read; the words of a line, gathered. Conditions: none. A region that draws its order, walked once in the order of the text, in a class of worlds. Over the library's theorems. Conditions: none. Package lined's Parse: a line of the text dialect. Conditions: the listed variables hold what the program's text lays. -/
import Derived.RangeFuncNested
import Derived.RangeFuncBound
import Derived.RangeFuncCalls
import Derived.RangeFuncLeaves
import Derived.RangeFuncBox
import Derived.Shelf.Abstract
import Derived.Shelf.RegionOpen
import Derived.WalkKit
import Derived.OwnWalkIn
import Derived.TacticsInMore
import Derived.LoopNIn
import Derived.LoopIn
import Derived.Maps.AppendAt
import Derived.Test.YtfcmnkhfmofioaaDoorG01Joined
import Derived.Test.YtfcmnkhfmofioaaDoorG04Joined
import Derived.Test.YtfcmnkhfmofioaaDoorG09Joined
import Derived.Test.YtfcmnkhfmofioaaDoorG06Joined
import Derived.Test.YtfcmnkhfmofioaaDoorG02Joined
namespace Go.Proofs.YtfcmnkhfmofioaaDoor
open Go.RowKit Go.Shelf
attribute [local go_sem] Oper.semAt_some

/-- The line's box holds what it held. -/
def BoxKept (Bs : Nat) (W W' : World) : Prop := W'.cell? ⟨Bs, 0, none⟩ = W.cell? ⟨Bs, 0, none⟩

set_option maxRecDepth 100000 in
set_option maxHeartbeats 2000000 in
theorem words1_in (F : Fence) (n : Nat) (h29 : F.fn 51) (hro : F.round = none) (hn : 1 ≤ n) (l Bs : Nat) (s : ByteArray) (hs : s.size ≤ 140737488351232) (J Jx : List ByteArray → World → Prop)
    (hY : ∀ pre x W, J pre W → pre.length < (wordsB s).length → YieldAt F (n - 1) Tryd.prog l #[.string x] W fun e W' =>
      (e = .returned (.bool true) ∧ J (pre ++ [x]) W' ∧ BoxKept Bs W W') ∨ (e = .returned (.bool false) ∧ Jx (pre ++ [x]) W'))
    (W : World) (hBs : W.cell? ⟨Bs, 0, none⟩ = some (.string s)) (h0 : J [] W) :
    CallsIn F n Tryd.prog 51 #[.func (.yield l) #[] #[], .pointer (some ⟨Bs, 0, none⟩)] W fun e W' => (∃ v, e = .returned v) ∧
      ((∃ ys, ys = wordsB s ∧ J ys W') ∨ (∃ pre, pre <+: wordsB s ∧ Jx pre W')) := by
  have HL : Hid (s.data.toList.length = s.size) := size_list s
  refine callsIn_of_wp Tryd.func51 rfl h29 ?_ hro
  simp only [Tryd.ntmps51, List.size_toArray, List.length_cons, List.length_nil, Nat.reduceAdd, Nat.reduceSub, Array.replicate_succ, Array.replicate_zero, List.push_toArray, List.append_toArray, List.nil_append, List.cons_append]
  gi_wp2
  gi_loopw [3, 8] (fun st i wr => ∃ (k a : Nat) (pre : List ByteArray), k ≤ s.size + 1 ∧ a ≤ k ∧ i = .int .i64 k ∧ st = .int .i64 a ∧ Hid (wordsB s = pre ++ restW s a k) ∧ wr.cell? ⟨Bs, 0, none⟩ = some (.string s) ∧ J pre wr)
    (fun _ i _ => s.size + 1 - (intOf i).toNat)
  case atStart => exact ⟨0, 0, [], Nat.zero_le _, Nat.le_refl _, rfl, rfl, rfl, hBs, h0⟩
  case round =>
    obtain ⟨k, a, pre, hk, hak, rfl, rfl, HR, hc, hJ⟩ := hrel
    clear hBs h0
    by_cases hlt : k < s.size + 1
    · by_cases hgo : ∃ h : k < s.size, (s[k]'h) ≠ 32
      · obtain ⟨hks, hne⟩ := hgo
        have HS : Hid (wordsB s = pre ++ restW s a (k + 1)) := by
          have h1 := restL_go s.data.toList a k (by rw [HL.out]; exact hks) hak hne
          show _ = _
          rw [HR.out]
          unfold restW
          rw [h1]
        obtain ⟨c, hcc⟩ : ∃ c : Int, c = ((s[k]'hks).toNat : Int) := ⟨_, rfl⟩
        have hcn : ¬ c = 32 := by
          intro e
          apply hne
          apply UInt8.toNat_inj.1
          have : ((32 : UInt8).toNat : Int) = 32 := by decide
          omega
        have hcb : (c != 32) = true := by simpa using hcn
        have hc' : ((s[k]'hks).toNat : Int) = c := hcc.symm
        clear hcc hne
        gi_wp2
        go_roundw
        case rel => exact ⟨k + 1, a, pre, by omega, by omega, by go_num, rfl, HS, hc, hJ⟩
        case measure => simp [intOf]; omega
      · have hbl : ∀ h : k < s.data.toList.length, s.data.toList[k] = 32 := by
          intro h
          have h' : k < s.size := by rw [← HL.out]; exact h
          have := not_exists.1 hgo h'
          have e : (s[k]'h') = 32 := by simpa using this
          exact e
        have hkl : k ≤ s.data.toList.length := by rw [HL.out]; omega
        have hst : (∃ h : k < s.size, ((s[k]'h).toNat : Int) = 32) ∨ ¬ k < s.size := by
          by_cases h : k < s.size
          · left
            refine ⟨h, ?_⟩
            have := not_exists.1 hgo h
            have e : (s[k]'h) = 32 := by simpa using this
            rw [e]; rfl
          · right; exact h
        by_cases hw : a < k
        · obtain ⟨x, hx⟩ : ∃ x, x = s.extract a k := ⟨_, rfl⟩
          have HS : Hid (wordsB s = (pre ++ [x]) ++ restW s (k + 1) (k + 1)) := by
            have h1 := restL_word s.data.toList a k hkl hw hbl
            show _ = _
            rw [HR.out]
            unfold restW
            rw [h1, List.map_cons, hx, extract_mk]
            simp
          have hplen : pre.length < (wordsB s).length := by
            have := congrArg List.length HS.out
            simp at this
            omega
          obtain ⟨fn, tmps, assign, body, hy, hR⟩ := hY pre x wr hJ hplen
          have hsl : ∀ W, (Instr.slice 9 (.string s) (some (.int .i64 a)) (some (.int .i64 k)) none).run Tryd.prog W = .ok (.string x) W := fun W => by
            rw [run_slice_string W 9 s .i64 .i64 a k Tryd.underlying9 (by omega) (by omega) (by omega), hx]
            simp
          clear hbl hgo hkl hplen hx
          rcases hst with ⟨hks, h32⟩ | hks
          all_goals
            gi_wp2
            refine hR.mono ?_
            rintro e W3 (⟨rfl, hJ3, hk3⟩ | ⟨rfl, hJx3⟩)
            · have hc3 : W3.cell? ⟨Bs, 0, none⟩ = some (.string s) := Eq.trans hk3 hc
              gi_wp2
              go_roundw
              case rel => exact ⟨k + 1, k + 1, pre ++ [x], by omega, by omega, by go_num, by go_num, HS, hc3, hJ3⟩
              case measure => simp [intOf]; omega
            · gi_wp2
              refine bodyPost_ret (results_none rfl _ _ _) rfl ?_
              exact ⟨⟨_, rfl⟩, .inr ⟨pre ++ [x], ⟨_, HS.out.symm⟩, hJx3⟩⟩
        · have HS : Hid (wordsB s = pre ++ restW s (k + 1) (k + 1)) := by
            have h1 := restL_skip s.data.toList a k hkl (by omega) hbl
            show _ = _
            rw [HR.out]
            unfold restW
            rw [h1]
          have hak2 : a = k := by omega
          subst hak2
          clear hbl hgo hkl
          rcases hst with ⟨hks, h32⟩ | hks
          all_goals
            gi_wp2
            refine ⟨fun _ h => (by cases h), ?_⟩
            gi_wp2
            go_roundw
            case rel => exact ⟨a + 1, a + 1, pre, by omega, by omega, by go_num, by go_num, HS, hc, hJ⟩
            case measure => simp [intOf]; omega
    · have HE : Hid (wordsB s = pre) := by
        have h1 := restL_end s.data.toList a k (by rw [HL.out]; omega)
        show _ = _
        rw [HR.out]
        unfold restW
        rw [h1]
        simp
      gi_wp2
      go_end0
      exact ⟨⟨_, rfl⟩, .inl ⟨pre, HE.out.symm, hJ⟩⟩

set_option maxHeartbeats 1000000 in
theorem wordsMk_in (F : Fence) (n : Nat) (h25 : F.fn 43) (hro : F.round = none) (s : ByteArray) (w : World) :
    CallsIn F n Tryd.prog 43 #[.string s] w fun e w' => e = .returned (.func (.func 51) #[] #[.pointer (some ⟨w.heap.size, 0, none⟩)]) ∧ w' = w.alloc (.cells #[.string s] 9) := by
  refine callsIn_of_wp Tryd.func43 rfl h25 ?_ hro
  simp only [Tryd.ntmps43, List.size_toArray, List.length_cons, List.length_nil, Nat.reduceAdd, Nat.reduceSub, Array.replicate_succ, Array.replicate_zero, List.push_toArray, List.append_toArray, List.nil_append, List.cons_append]
  gi_wp2
  go_ret
  exact ⟨rfl, rfl⟩

/-- What Words hands back tells all the words, or as many as one goes on with. -/
theorem words_stops (F : Fence) (n : Nat) (h29 : F.fn 51) (hro : F.round = none) (hn : 1 ≤ n) (Bs : Nat) (s : ByteArray) (hs : s.size ≤ 140737488351232) (w : World) (hBs : Bs < w.heap.size) (hc : w.cell? ⟨Bs, 0, none⟩ = some (.string s)) :
    SeqStopsK F n Tryd.prog 51 #[.pointer (some ⟨Bs, 0, none⟩)] (fun x : ByteArray => #[Value.string x]) (BoxKept Bs) (fun ys => ys = wordsB s) (fun pre => pre <+: wordsB s) (wordsB s).length w := fun l J Jx W hW _ _ hY h0 =>
  words1_in F n h29 hro hn l Bs s hs J Jx hY W ((hW.cell (p := ⟨Bs, 0, none⟩) hBs).trans hc) h0
end Go.Proofs.YtfcmnkhfmofioaaDoor

namespace Go.Proofs.YtfcmnkhfmofioaaDoor
set_option linter.unusedVariables false
open Go.RowKit Go.Shelf
attribute [local go_sem] Oper.semAt_some

theorem boxKept_b {Bs : Nat} {w : World} (h : Bs < w.heap.size) : ∀ (W : World) (l : Nat) (o o' : Obj), w.heap.size ≤ l → W.heap[l]? = some o → o.isCells = false → o.isWalk = false → BoxKept Bs W (W.putObj l o') := fun W l o o' hl _ _ _ => by
  unfold BoxKept
  exact World.cell?_of_block (w := W) (World.putObj_heap_other (show Bs ≠ l by omega))
theorem boxKept_t {Bs : Nat} {A B C : World} (h : BoxKept Bs A B) (k : BoxKept Bs B C) : BoxKept Bs A C := Eq.trans k h
set_option maxRecDepth 100000 in
set_option maxHeartbeats 4000000 in
theorem gather_any (s : ByteArray) (hs : s.size ≤ 5000) (w : World) :
    Calls Tryd.prog 26 #[.string s] w fun e W' => ∃ v, e = .returned v ∧ W'.ownsRow w.heap.size 9 1 v (wordsB s).length ((wordsB s).map Value.string) ∧ Below w.heap.size w W' := by
  refine (callsIn_wide (n := 6)).1 ?_
  have hlen := wordsB_len s
  obtain ⟨i0, hi, hz0, hz1, hz2⟩ := info_parts info_str
  refine callsIn_of_wp_marks Tryd.func26 rfl trivial ?_ rfl
  simp only [Tryd.ntmps26, List.size_toArray, List.length_cons, List.length_nil, Nat.reduceAdd, Nat.reduceSub, Array.replicate_succ, Array.replicate_zero, List.push_toArray, List.append_toArray, List.nil_append, List.cons_append]
  gi_wp2_with (refine ⟨trivial, ?_⟩; gi_at_call 43; refine (wordsMk_in Fence.wide (6 - 1) trivial rfl s _).mono ?_; rintro e w' ⟨rfl, rfl⟩)
  have bO := Boxed.new w 27 (.slice none 0 0)
  have bS := Boxed.new (w.alloc (.cells #[.slice none 0 0] 27)) 9 (.string s)
  simp only [World.size_alloc] at bO bS
  have hB0 : Below w.heap.size w ((w.alloc (.cells #[.slice none 0 0] 27)).alloc (.cells #[.string s] 9)) := ((Below.refl _ w).alloc (Nat.le_refl _) _).alloc (by simp) _
  refine wpIn_rangeFunc_ownG rfl (by decide) (gf := 51) (lb := #[.pointer (some ⟨w.heap.size + 1, 0, none⟩)]) rfl trivial (enters_of Tryd.func51 (by kernel_rfl) rfl)
    (words_stops Fence.wide (6 - 1) trivial rfl (by decide) (w.heap.size + 1) s (by omega) _ (by simp) bS.cell) boxKept_t (boxKept_b (by simp)) (Below.refl _ _) (fun _ => rfl)
    (fun pre W => ((∃ v, Boxed W w.heap.size 27 v ∧ W.ownsRow (w.heap.size + 2) 9 1 v pre.length (pre.map Value.string) ∧ True) ∧ Boxed W (w.heap.size + 1) 9 (.string s)) ∧ Below w.heap.size w W)
    (fun c pre W => False)
    (OwnFrom.and (OwnFrom.and (Own.from (holdsRow_own (w.heap.size + 2) w.heap.size 27 9 1 (fun pre : List ByteArray => pre.length) (fun pre => pre.map Value.string) (fun _ _ => True)) _) (Own.from (boxed_own (w.heap.size + 1) 9 (fun _ => .string s)) _)) (ownFrom_below (Nat.le_refl _) (by simp; omega)))
    (fun c => ownFrom_pure _ _)
    ⟨⟨⟨_, bO.alloc _, World.ownsRow_nil _ _ _ _, trivial⟩, bS⟩, hB0⟩
    (fun x => { tmps := #[.string s, undef, .slice none 0 0, .pointer (some ⟨w.heap.size, 0, none⟩), .string x, .string s, .func (.func 51) #[] #[.pointer (some ⟨w.heap.size + 1, 0, none⟩)], .string x, undef, undef, undef, undef, undef], defers := [] }) ?assign ?body ?done ?stop
  case assign =>
    intro l x W K hK
    gi_wp2
    exact hK
  case body =>
    rintro l pre x W ⟨⟨⟨v, hv, hrow, -⟩, hbs⟩, hB⟩ hltN
    have hc := hv.cell
    have hsz : w.heap.size + 2 ≤ W.heap.size := by have := hbs.lt; omega
    gi_wp2_with (gi_at_builtin; refine wpListIn_append_own _ rfl _ _ 27 rfl (w.heap.size + 2) 9 i0 (.string ⟨#[]⟩) 1 16 Tryd.underlying27 hi hz0 hz1 hz2 rfl (by decide) _ _ _ rfl (hrow.alloc _) ⟨W.heap.size, 0, none⟩ 1 1 [.string x] rfl rfl (cell_one_new _ _ _) (by simp [Value.oneCell']) (by unfold maxLen; omega) (by omega) (by simp; omega) ?_; intro v' w1 hown' hgrow _; obtain ⟨g', cap', rfl⟩ := ownsRow_succ hown'; obtain ⟨hv1, hv2, hr2, hk2, hb2, hoth⟩ := appended3 (n₀ := w.heap.size) hv hrow hsz (by omega) (by omega) hown' hgrow; have hc1 := hv1.cell; have hf1 := hv1.frozen; have hbs2 := hoth _ _ _ hbs (by omega) (by omega); have hcv2 := hv2.cell)
    exact ⟨hk2.from _, hbs2.cell.trans hbs.cell.symm, ⟨⟨_, hv2, by simpa using hr2, trivial⟩, hbs2⟩, hB.trans hb2⟩
  case done =>
    rintro D ys W hD rfl ⟨⟨⟨v, hv, hrow, -⟩, hbs⟩, hB⟩ hK
    have hc := hv.cell
    gi_wp2
    refine ⟨by simp, .inl ⟨_, _, rfl, run_takeDeferred hK, ?_⟩⟩
    exact ⟨_, results_tmp rfl _ _ _, v, rfl, own_base (ownsRow_putObj hrow _ hK rfl) (by omega), hB.trans (belowK_b (w := w) (Nat.le_refl _) W D _ _ (by simp at hD; omega) hK rfl rfl)⟩
  case stop =>
    rintro D c pre W hD hpre h hK
    exact h.elim
end Go.Proofs.YtfcmnkhfmofioaaDoor

namespace Go.Proofs.YtfcmnkhfmofioaaDoor
set_option linter.unusedVariables false
open Go.RowKit

section
variable {w : World} {a : Option Addr} {len cap : Nat} {l : List UInt8}
set_option maxRecDepth 100000 in
set_option maxHeartbeats 2000000 in
theorem parse_more (fv : Value) (h : Bu w a len cap l) (he : (lineN l).2.2 = 3) : Calls Tryd.prog 11 #[.slice a len cap, fv] w fun e w' => ParseEnd moreS w e w' := by
  obtain ⟨W0, hW0⟩ : ∃ W0, W0 = w.alloc (.cells #[.slice none 0 0, .int .i64 0, .string ⟨#[]⟩, .int .i64 0, .int .u32 0, .bool false, .bool false, .string ⟨#[]⟩, .slice none 0 0, .slice none 0 0, .bool false, .string ⟨#[]⟩, .int .i64 0, .int .i64 0, .bool false, .int .i64 0] 34) := ⟨_, rfl⟩
  have g0 : w.grownBy W0 none := by rw [hW0]; exact World.grownBy_alloc _ _ _
  have r0 : W0.heap[w.heap.size]? = some (.cells #[.slice none 0 0, .int .i64 0, .string ⟨#[]⟩, .int .i64 0, .int .u32 0, .bool false, .bool false, .string ⟨#[]⟩, .slice none 0 0, .slice none 0 0, .bool false, .string ⟨#[]⟩, .int .i64 0, .int .i64 0, .bool false, .int .i64 0] 34 (0, 0)) := by rw [hW0]; exact World.alloc_heap_new w _
  have hz0 : W0.heap.size = w.heap.size + 1 := by rw [hW0, World.size_alloc]
  have R0 := hide (fun (w1 : World) (g1 : W0.grownBy w1 none) => (g1.block w.heap.size (by omega) (by simp)).trans r0)
  have G0 := hide g0
  have HL := hide (line_any (h.on (below_gr g0)))
  have HE := hide (fun (w1 : World) (g1 : W0.grownBy w1 none) => pbare_end (w := w) (s := moreS) rfl (R0.out w1 g1) (gr_trans G0.out g1))
  generalize lineN l = x at *
  obtain ⟨x1, x2, x3⟩ := x
  simp only [lineV] at *
  subst he
  clear h r0 g0
  go_enter Tryd.func11, Tryd.ntmps11
  go_wp2_with (first
    | (go_at_call 24; rw [← hW0]; refine HL.out.mono ?_; rintro e w1 ⟨rfl, g1⟩; replace g1 := hide g1)
    | (refine wpList_store_row rfl 34 _ _ rfl w.heap.size (stC moreS none 0 none 0 none 0) rfl rfl _ _ (R0.out w1 g1.out) (step_size _ _ _ _ _ _ _) rfl (step_one _ _ _ _ _ _ _) ?_))
  exact step_ret rfl (HE.out w1 g1.out).1 rfl rfl (HE.out w1 g1.out).2
/-- The last byte of a line that is too long. -/
theorem long_last (he : (lineN l).2.2 = 4) : ∃ u : Nat, ∃ hu : u < l.length, (lineN l).2.1 = (u : Int) + 1 ∧ (((l[u]'hu).toNat : Int) != 10) = (cutL l).isNone := by
  rcases feeds l with hf | ⟨p, r, rfl, hf⟩
  · rw [lineN_no hf] at he ⊢
    rw [cutL_no l hf]
    split at he
    · rename_i h1
      rw [if_pos h1]
      refine ⟨l.length - 1, by omega, by simp only []; omega, ?_⟩
      have hne : l[l.length - 1]'(by omega) ≠ 10 := fun e => hf (by rw [← e]; exact List.getElem_mem _)
      have : ((l[l.length - 1]'(by omega)).toNat : Int) ≠ 10 := fun e => hne (by apply UInt8.toNat_inj.1; have : (10 : UInt8).toNat = 10 := rfl; omega)
      simpa using this
    · simp at he
  · rw [lineN_of hf] at he ⊢
    rw [cutL_of p r hf]
    split at he
    · rename_i h1
      rw [if_pos h1]
      refine ⟨p.length, by simp, rfl, ?_⟩
      simp
    · simp at he
set_option maxRecDepth 100000 in
set_option maxHeartbeats 2000000 in
theorem parse_long (fv : Value) (h : Bu w a len cap l) (he : (lineN l).2.2 = 4) : Calls Tryd.prog 11 #[.slice a len cap, fv] w fun e w' => ParseEnd { refuseS t_long (lineN l).2.1 with line := (cutL l).isNone } w e w' := by
  obtain ⟨W0, hW0⟩ : ∃ W0, W0 = w.alloc (.cells #[.slice none 0 0, .int .i64 0, .string ⟨#[]⟩, .int .i64 0, .int .u32 0, .bool false, .bool false, .string ⟨#[]⟩, .slice none 0 0, .slice none 0 0, .bool false, .string ⟨#[]⟩, .int .i64 0, .int .i64 0, .bool false, .int .i64 0] 34) := ⟨_, rfl⟩
  have g0 : w.grownBy W0 none := by rw [hW0]; exact World.grownBy_alloc _ _ _
  have r0 : W0.heap[w.heap.size]? = some (.cells #[.slice none 0 0, .int .i64 0, .string ⟨#[]⟩, .int .i64 0, .int .u32 0, .bool false, .bool false, .string ⟨#[]⟩, .slice none 0 0, .slice none 0 0, .bool false, .string ⟨#[]⟩, .int .i64 0, .int .i64 0, .bool false, .int .i64 0] 34 (0, 0)) := by rw [hW0]; exact World.alloc_heap_new w _
  have hz0 : W0.heap.size = w.heap.size + 1 := by rw [hW0, World.size_alloc]
  have R0 := hide (fun (w1 : World) (g1 : W0.grownBy w1 none) => (g1.block w.heap.size (by omega) (by simp)).trans r0)
  have G0 := hide g0
  have HL := hide (line_any (h.on (below_gr g0)))
  obtain ⟨u, hu, hx2, hlast⟩ := long_last he
  have hn := h.n
  have hc := h.c
  have hm := h.m
  unfold maxLen at hm
  obtain ⟨ab, ao, rfl, hcell⟩ := h.cell (by omega)
  have cu := fun (W : World) (hb : w.grownBy W none) => (((below_gr hb).cell (p := ⟨ab, ao + u, none⟩) (World.block_lt_of_cell? w _ (hcell u hu))).trans (hcell u hu))
  generalize (cutL l).isNone = last at *
  obtain ⟨cb, hcb⟩ : ∃ cb : Int, cb = ((l[u]'hu).toNat : Int) := ⟨_, rfl⟩
  rw [← hcb] at hlast cu
  generalize lineN l = x at *
  obtain ⟨x1, x2, x3⟩ := x
  simp only [lineV] at *
  subst he hx2
  have HF := hide (fun W => refuse_any t_long (by decide) ((u : Int) + 1) W)
  rw [← long_is] at HF
  have HE := hide (fun (w1 : World) (g1 : W0.grownBy w1 none) => pbare_end (w := w) (s := { refuseS t_long ((u : Int) + 1) with line := last }) rfl (R0.out w1 g1) (gr_trans G0.out g1))
  have HS := hide (set_line (refuseS t_long ((u : Int) + 1)) last none none none 0 0 0)
  generalize refuseS t_long ((u : Int) + 1) = y at *
  have hui : (u : Int) < (len : Int) := by omega
  have e1 : wrap64 ((u : Int) + 1 - 1) = (u : Int) := by unfold wrap64; omega
  have e2 : wrap64 (u : Int) = (u : Int) := by unfold wrap64; omega
  have HCU := hide cu
  clear h r0 g0 hcell hcb cu hn hc hm
  go_enter Tryd.func11, Tryd.ntmps11
  go_wp2_with (first
    | (go_at_call 24; rw [← hW0]; refine HL.out.mono ?_; rintro e w1 ⟨rfl, g1⟩; replace g1 := hide g1)
    | (go_at_call 25; refine (HF.out _).mono ?_; rintro e w2 ⟨rfl, g2⟩; obtain ⟨B, hB⟩ : ∃ B, B = w2.heap.size := ⟨_, rfl⟩; obtain ⟨W2, hW2⟩ : ∃ W2, W2 = w2.alloc (.cells (stC y none 0 none 0 none 0) 34) := ⟨_, rfl⟩; have kk : w.grownBy W2 none := (by rw [hW2]; exact gr_trans G0.out (gr_trans g1.out (gr_trans g2 (World.grownBy_alloc _ _ _)))); have q2 := HCU.out W2 kk; obtain ⟨c2, f2, n3, k3⟩ := cell_mid (j := 14) (v := .bool last) hW2 hB g1.out g2 rfl HS.out; obtain ⟨W3, hW3⟩ : ∃ W3, W3 = W2.setCell ⟨B, 14, none⟩ (.bool last) := ⟨_, rfl⟩; rw [← hW3] at n3 k3; replace n3 := hide n3; replace k3 := hide k3; have HW3 := hide hW3; clear hW3 g2 kk)
    | (refine wpList_store_row rfl 34 _ _ rfl w2.heap.size (stC y none 0 none 0 none 0) rfl rfl _ _ (World.alloc_heap_new w2 _) (step_size _ _ _ _ _ _ _) rfl (step_one _ _ _ _ _ _ _) ?_; rw [setRow_alloc, ← hW2, ← hB]; clear hW2 hB)
    | (rw [← HW3.out]; refine wpList_load_row rfl 34 _ rfl B rfl _ (stC { y with line := last } none 0 none 0 none 0) _ _ n3.out Tryd.underlying34 rfl (step_size _ _ _ _ _ _ _) ?_)
    | (refine wpList_store_row rfl 34 _ _ rfl w.heap.size (stC { y with line := last } none 0 none 0 none 0) rfl rfl _ _ (R0.out W3 k3.out) (step_size _ _ _ _ _ _ _) rfl (step_one _ _ _ _ _ _ _) ?_))
  exact step_ret rfl (HE.out W3 k3.out).1 rfl rfl (HE.out W3 k3.out).2
/-- What a line that is there takes. -/
theorem line_used (he : (lineN l).2.2 = 0) : (lineN l).1.length ≤ 2048 ∧ ∃ u : Nat, (lineN l).2.1 = (u : Int) ∧ u ≤ l.length := by
  rcases feeds l with hf | ⟨p, r, rfl, hf⟩
  · rw [lineN_no hf] at he
    split at he
    · simp at he
    · simp at he
  · rw [lineN_of hf] at he ⊢
    split at he
    · simp at he
    · rename_i h1
      rw [if_neg h1]
      refine ⟨by simp only []; omega, p.length + 1, by simp, by simp⟩
/-- The words are gathered: they may be read. -/
theorem gathered {w1 w2 : World} {v : Value} {x1 : List UInt8} (o2 : w2.ownsRow w1.heap.size 9 1 v (wordsB ⟨x1.toArray⟩).length ((wordsB ⟨x1.toArray⟩).map Value.string)) : ∃ wa wc, v = .slice wa (wordsL x1).length wc ∧ Wu (fun _ => True) w2 wa (wordsL x1).length wc (wordsL x1) := by
  have ew : wordsB ⟨x1.toArray⟩ = (wordsL x1).map mkB := by rw [wordsB_L]
  rw [ew, List.length_map, List.map_map] at o2
  obtain ⟨wa, wc, rfl⟩ := own_shape o2
  refine ⟨wa, wc, rfl, rfl, (own_cap o2).1, (own_cap o2).2, fun e => ?_, ?_⟩
  · subst e
    rcases o2.2 with ⟨h3, _⟩ | ⟨g, cp, cur, h3, _⟩
    · exact (Value.slice.inj h3).2.2
    · cases h3
  · by_cases h0 : (wordsL x1).length = 0
    · exact .inl h0
    · obtain ⟨g, cp, e⟩ := own_form o2 (by omega)
      cases e
      have hat := own_at o2 rfl
      refine .inr ⟨g, 0, rfl, trivial, hat.2.1, fun i hi => ?_⟩
      rw [Nat.zero_add, o2.cellAt i (by omega), List.getElem?_map, List.getElem?_eq_getElem hi]
      rfl
/-- A step in a block of its own, of which one cell is set later. -/
theorem cell_mid2 {W0 w2 W2 w8 : World} {B j : Nat} {s s' : Sv} {v x : Value} (hW2 : W2 = w2.alloc (.cells (stC s none 0 none 0 none 0) 34)) (hB : B = w2.heap.size) (g1 : W0.grownBy w2 none) (g8 : W2.grownBy w8 none) (hx : (stC s none 0 none 0 none 0)[j]? = some x) (hS : (stC s none 0 none 0 none 0).setIfInBounds j v = stC s' none 0 none 0 none 0) :
    w8.cell? ⟨B, j, none⟩ = some x ∧ w8.frozen? ⟨B, j, none⟩ = false ∧ (w8.setCell ⟨B, j, none⟩ v).heap[B]? = some (.cells (stC s' none 0 none 0 none 0) 34 (0, 0)) ∧ W0.grownBy (w8.setCell ⟨B, j, none⟩ v) none := by
  have hb : B < W2.heap.size := by rw [hB, hW2, World.size_alloc]; omega
  have n2 : w8.heap[B]? = some (.cells (stC s none 0 none 0 none 0) 34 (0, 0)) := (g8.block B hb (by simp)).trans (by rw [hW2, hB]; exact World.alloc_heap_new _ _)
  have k2 : W0.grownBy w8 none := gr_trans (by rw [hW2]; exact gr_trans g1 (World.grownBy_alloc _ _ _)) g8
  have n3 := heap_setCell_same w8 B j _ _ v n2
  rw [hS] at n3
  have hb2 : W0.heap.size ≤ B := by rw [hB]; exact g1.size
  exact ⟨by unfold World.cell?; rw [n2]; exact hx, frozen_of_row _ _ _ _ _ n2, n3, ⟨k2.1, k2.2, k2.3, by rw [World.size_setCell]; exact k2.size, fun b hb _ => (heap_setCell_other _ _ _ _ (show b ≠ B by omega)).trans (k2.block b hb (by simp))⟩⟩
/-- What finish answers, and what lay ahead of it. -/
theorem fin_over {n0 : Nat} {s : Sv} {W0 W1 w' : World} {e : Ending} (h : FinEnd n0 s W1 e w') (g : W0.grownBy W1 none) (hn : W0.heap.size ≤ n0) : ∃ ca cc ta tc ka kc, e = .returned (.agg (stC s ca cc ta tc ka kc)) ∧ (∀ W' : World, (∀ k, n0 ≤ k → k < w'.heap.size → W'.heap[k]? = w'.heap[k]?) → w'.heap.size ≤ W'.heap.size → QAt W' s.req ca cc ta tc ka kc) ∧ W0.grownBy w' none := by
  obtain ⟨ca, cc, ta, tc, ka, kc, h1, h2, h3⟩ := h
  exact ⟨ca, cc, ta, tc, ka, kc, h1, h2, h3.os.trans g.os, h3.tape.trans g.tape, h3.output.trans g.output, Nat.le_trans g.size h3.size, fun b hb _ => (h3.block b (Nat.lt_of_lt_of_le hb g.size) (by omega)).trans (g.block b hb (by simp))⟩
theorem parse_end {n0 : Nat} {W : World} {old : Array Value} {s : Sv} {ca ta ka : Option Addr} {cc tc kc : Nat} (hr : W.heap[w.heap.size]? = some (.cells old 34 (0, 0))) (hn : w.heap.size < n0) (hg : w.grownBy W none) (hs : ∀ W' : World, (∀ k, n0 ≤ k → k < W.heap.size → W'.heap[k]? = W.heap[k]?) → W.heap.size ≤ W'.heap.size → QAt W' s.req ca cc ta tc ka kc) :
    (W.setRow w.heap.size (stC s ca cc ta tc ka kc)).heap[w.heap.size]? = some (.cells (stC s ca cc ta tc ka kc) 34 (0, 0)) ∧ ParseEnd s w (.returned (.agg (stC s ca cc ta tc ka kc))) (W.setRow w.heap.size (stC s ca cc ta tc ka kc)) :=
  ⟨setRow_heap W _ old _ _ _ hr, ca, cc, ta, tc, ka, kc, rfl, fun W' hw hz => hs W' (fun k hk hl => (hw k (by omega) (by rw [size_setRow]; exact hl)).trans (setRow_other W _ k _ (by omega))) (by rw [size_setRow] at hz; exact hz), ⟨hg.os, hg.tape, hg.output, by rw [size_setRow]; exact hg.size, fun k hk hn => (setRow_other W _ k _ (by omega)).trans (hg.block k hk hn)⟩⟩
theorem setRow_at {W : World} {k : Nat} {old cs : Array Value} {t : TypeId} (hk : k = W.heap.size) : (W.alloc (.cells old t)).setRow k cs = W.alloc (.cells cs t) := by
  subst hk
  exact setRow_alloc W old cs t
/-- 'b[i:]', whatever the world: its value, and how it is made. -/
theorem line_ways (l : List UInt8) : (lineN l).2.2 = 3 ∨ (lineN l).2.2 = 4 ∨ (lineN l).2.2 = 0 := by
  unfold lineN
  split
  · split <;> simp
  · split <;> simp
end
end Go.Proofs.YtfcmnkhfmofioaaDoor

namespace Go.Proofs.YtfcmnkhfmofioaaDoor
set_option linter.unusedVariables false
open Go.RowKit Go.Shelf

/-- One operation of a walk in a class of worlds: its value, in each of them. -/
theorem class_put {P : Program} {C : World → Prop} {Q : Act → Prop} {ops : Array Oper} {o : Oper} {rest : List Oper} {a a' : Act} (v : Value) (hw : Region.wanted o (yielded ops a.tmps) = true)
    (h : ∀ w, C w → o.quietAt P a C w v) (ha : a.put o.dst v = a') (hr : wpQuiet P ops C Q rest a') : wpQuiet P ops C Q (o :: rest) a :=
  wpQuiet_step fun K hK => by
    rw [if_pos hw]
    exact ⟨v, h, by rw [ha]; exact hK _ hr⟩
theorem i64_wrap (z : Int) : IntKind.i64.wrap z = wrap64 z := by rw [IntKind.wrap_i64]; unfold wrap64; rfl
/-- One walk in the order of the text, in a class of worlds. -/
theorem region_cl {P : Program} {C : World → Prop} {id : Nat} {Q : Exit → Act → World → Prop} {a : Act} {w : World} {l : List Oper} (hm : P.follows .mixedOrders = true) (hB : Region.lexB .any l.toArray = true) (hC : C w.drew)
    (h : wpQuiet P l.toArray C (fun a' => ∀ w', C w' → Q .normal a' w') l a) : (Code.region id l.toArray true).wp P Q a w :=
  wp_region_quiet hm hB hC (by simpa using h)
section
variable {P : Program} {md : Region.Mode} {ops : Array Oper} {Q : Exit → Act → World → Prop} {S : World → Prop}
/-- One alone may come up, guarded or not. -/
theorem one_at_g (i : Nat) {o : Oper} {fuel : Nat} {listed : Array Bool} {a : Act} {w : World} (hr : Region.ready md ops listed = [i]) (ho : ops[i]? = some o) (hw : Region.wanted o (yielded ops a.tmps) = true)
    (h : o.wp P a w (fun a' w' => S w' ∧ wpAnyH P md ops Q S fuel (listed.setIfInBounds i true) a' w') Q) : wpAnyH P md ops Q S (fuel + 1) listed a w := by
  refine wpAnyH_all hr (by simp) fun j hj => ?_
  obtain rfl : j = i := by simpa using hj
  unfold wpOp
  simp only [ho, hw, if_true]
  exact .inl h
end
theorem run_load_row {P : Program} {o : Oper} {a : Act} {w : World} (ty : TypeId) (x : Operand) (ho : o.op = .load ty x) (g : Nat) (hx : a.eval x = .pointer (some ⟨g, 0, none⟩)) {t : TypeId} {cs : Array Value} {fr : Nat × Nat} {d : TypeDesc} (hg : w.heap[g]? = some (.cells cs t fr))
    (hu : P.underlying ty = some d) (hd : (match d with | .struct _ | .array _ _ => true | _ => false) = true) (hi : (P.info? ty).map (·.size) = some cs.size) : (execOp a.eval o).run P w = .ok (.value (.agg cs)) w := by
  unfold execOp
  simp only [ho, hx, Instr.loadAt, Instr.sureAddr, Sem.run_bind, Sem.run_pure, Result.andThen_ok, run_loadVar_row w g t ty cs fr d hg hu hd hi]
theorem quiet_row {P : Program} {C : World → Prop} {o : Oper} {a : Act} {w : World} (ty : TypeId) (x : Operand) (ho : o.op = .load ty x) (g : Nat) (hx : a.eval x = .pointer (some ⟨g, 0, none⟩)) {t : TypeId} {cs : Array Value} {fr : Nat × Nat} {d : TypeDesc} (hg : w.heap[g]? = some (.cells cs t fr))
    (hu : P.underlying ty = some d) (hd : (match d with | .struct _ | .array _ _ => true | _ => false) = true) (hi : (P.info? ty).map (·.size) = some cs.size) : o.quietAt P a C w (.agg cs) := by
  unfold Oper.quietAt
  rw [run_load_row ty x ho g hx hg hu hd hi]
  exact ⟨rfl, rfl⟩
theorem keep_cell {w w' : World} {p : Addr} {v : Value} (hg : w.grownBy w' none) (h : w.cell? p = some v) : w'.cell? p = some v := ((below_gr hg).cell (World.block_lt_of_cell? w _ h)).trans h
end Go.Proofs.YtfcmnkhfmofioaaDoor

namespace Go.Proofs.YtfcmnkhfmofioaaDoor
set_option linter.unusedVariables false
open Go.RowKit Go.Shelf

/-- The words of a line are read so. -/
def tReads (rd : List (List UInt8) → Sd) : Prop := ∀ (W : World) (wa : Option Addr) (wc : Nat) (ws : List (List UInt8)), Laid W → ws.length ≤ 2100 → (∀ y ∈ ws, y.length ≤ 2100) → Wu (fun _ => True) W wa ws.length wc ws → Calls Tryd.prog 12 #[.slice wa ws.length wc] W fun e w' => SaidEnd (rd ws) W e w'
section
variable {w : World} {a : Option Addr} {len cap : Nat} {l : List UInt8} {rd : List (List UInt8) → Sd}
set_option maxRecDepth 100000 in
set_option maxHeartbeats 4000000 in
theorem tparse_fault (hRd : tReads rd) (hOk : ∀ ws, SdOk (rd ws)) (hLd : Laid w) (h : Bu w a len cap l) (he : (lineN l).2.2 = 0) (hf : faultSd (rd (wordsL (lineN l).1)) ≠ []) : Calls Tryd.prog 11 #[.slice a len cap, .func (.func 12) #[] #[]] w fun e w' => ParseEnd { refuseS (faultSd (rd (wordsL (lineN l).1))) (lineN l).2.1 with skip := skipSd (rd (wordsL (lineN l).1)) } w e w' := by
  obtain ⟨hx1, -⟩ := line_used he
  obtain ⟨W0, hW0⟩ : ∃ W0, W0 = w.alloc (.cells #[.slice none 0 0, .int .i64 0, .string ⟨#[]⟩, .int .i64 0, .int .u32 0, .bool false, .bool false, .string ⟨#[]⟩, .slice none 0 0, .slice none 0 0, .bool false, .string ⟨#[]⟩, .int .i64 0, .int .i64 0, .bool false, .int .i64 0] 34) := ⟨_, rfl⟩
  have g0 : w.grownBy W0 none := by rw [hW0]; exact World.grownBy_alloc _ _ _
  have r0 : W0.heap[w.heap.size]? = some (.cells #[.slice none 0 0, .int .i64 0, .string ⟨#[]⟩, .int .i64 0, .int .u32 0, .bool false, .bool false, .string ⟨#[]⟩, .slice none 0 0, .slice none 0 0, .bool false, .string ⟨#[]⟩, .int .i64 0, .int .i64 0, .bool false, .int .i64 0] 34 (0, 0)) := by rw [hW0]; exact World.alloc_heap_new w _
  have hz0 : W0.heap.size = w.heap.size + 1 := by rw [hW0, World.size_alloc]
  have R0 := hide (fun (w1 : World) (g1 : W0.grownBy w1 none) => (g1.block w.heap.size (by omega) (by simp)).trans r0)
  have G0 := hide g0
  have HL := hide (line_any (h.on (below_gr g0)))
  generalize lineN l = x at *
  obtain ⟨x1, x2, x3⟩ := x
  simp only [lineV] at *
  subst he
  have HX : Hid ((⟨x1.toArray⟩ : ByteArray).size ≤ 5000) := by show (⟨x1.toArray⟩ : ByteArray).size ≤ 5000; have := size_mk x1; unfold mkB at this; omega
  have HWL : Hid ((wordsL x1).length ≤ 2100) := by show (wordsL x1).length ≤ 2100; have := wordsL_len x1; omega
  have HWE : Hid (∀ y ∈ wordsL x1, y.length ≤ 2100) := fun y hy => by have := wordsL_each x1 y hy; omega
  have HO := hOk (wordsL x1)
  obtain ⟨s, hs⟩ : ∃ s, rd (wordsL x1) = s := ⟨_, rfl⟩
  have HRD := hide hs
  rw [hs] at HO hf ⊢
  have HFL := faultSd_len HO
  have HFA := hide (fun ca ta ka cc tc kc W => fault_any s HO ca ta ka cc tc kc W)
  have HSK := hide (fun ca ta ka cc tc kc W => skip_any s HO ca ta ka cc tc kc W)
  generalize faultSd s = f at *
  have HF := hide (fun W => refuse_any f HFL x2 W)
  have HE := hide (fun (w1 : World) (g1 : W0.grownBy w1 none) => pbare_end (w := w) (s := { refuseS f x2 with skip := skipSd s }) rfl (R0.out w1 g1) (gr_trans G0.out g1))
  have HS := hide (set_skip (refuseS f x2) (skipSd s) none none none 0 0 0)
  generalize refuseS f x2 = y at *
  generalize skipSd s = sk at *
  obtain ⟨c, t, rfl⟩ := List.exists_cons_of_ne_nil hf
  replace hLd := hide hLd
  replace hRd := hide hRd
  clear h r0 g0 hs HO hOk hf HFL hz0 hx1
  have N1 : Hid True := trivial
  go_enter Tryd.func11, Tryd.ntmps11
  go_wp2_with (first
    | (go_at_call 24; rw [← hW0]; refine HL.out.mono ?_; rintro e w1 ⟨rfl, g1⟩; have LD1 := hide (hLd.out.on (below_gr (gr_trans G0.out g1))); replace g1 := hide g1)
    | (go_at_call 26; refine (gather_any ⟨x1.toArray⟩ HX.out _).mono ?_; rintro e w2 ⟨v2, rfl, o2, b2⟩; obtain ⟨wa, wc, rfl, U2⟩ := gathered o2; have C2 := hide (hRd.out w2 wa wc (wordsL x1) (LD1.out.on (below_gr (gr_of_below b2))) HWL.out HWE.out U2); have g2 := hide (gr_trans g1.out (gr_of_below b2)); clear o2 b2 U2)
    | (go_at_call 12; refine C2.out.mono ?_; rw [HRD.out]; rintro e w3 ⟨ca, cc, ta, tc, ka, kc, rfl, A3, k3⟩; have g3 := hide (gr_trans g2.out k3); replace A3 := hide A3; obtain ⟨q, hq⟩ : ∃ q, q = w3.heap.size := ⟨_, rfl⟩; obtain ⟨W4, hW4⟩ : ∃ W4, W4 = w3.alloc (.cells (sdC s ca cc ta tc ka kc) 57) := ⟨_, rfl⟩; have n4 : W4.heap[q]? = some (.cells (sdC s ca cc ta tc ka kc) 57 (0, 0)) := (by rw [hW4, hq]; exact World.alloc_heap_new _ _); have h4 := hide (show w3.grownBy W4 none from by rw [hW4]; exact World.grownBy_alloc _ _ _); have lq : q < W4.heap.size := (by rw [hW4, hq, World.size_alloc]; omega); have z3 := hide hq; replace n4 := hide n4; replace lq := hide lq; replace k3 := hide k3)
    | (refine wpList_store_row rfl 57 _ _ rfl w3.heap.size (sdC s ca cc ta tc ka kc) rfl rfl _ _ (World.alloc_heap_new w3 _) (said_size _ _ _ _ _ _ _) rfl (said_one _ _ _ _ _ _ _) ?_; rw [setRow_alloc, ← hW4, ← hq]; clear hW4 hq)
    | (have t_ := n4; clear t_; refine wpList_load_row rfl 57 _ rfl q rfl _ (sdC s ca cc ta tc ka kc) _ _ n4.out Tryd.underlying57 rfl (said_size _ _ _ _ _ _ _) ?_; have t4 := hide trivial)
    | (go_at_call 27; refine (HFA.out ca ta ka cc tc kc _).mono ?_; rintro e w5 ⟨rfl, k5⟩; have g5 := hide (gr_trans g3.out (gr_trans h4.out k5)); replace n4 := hide ((k5.block q lq.out (by simp)).trans n4.out); replace lq := hide (Nat.lt_of_lt_of_le lq.out k5.size); simp only [mkB])
    | (go_at_call 25; have t1 := g5; clear t1; refine (HF.out _).mono ?_; rintro e w6 ⟨rfl, k6⟩; have g6 := hide (gr_trans g5.out k6); obtain ⟨B, hB⟩ : ∃ B, B = w6.heap.size := ⟨_, rfl⟩; obtain ⟨W7, hW7⟩ : ∃ W7, W7 = w6.alloc (.cells (stC y none 0 none 0 none 0) 34) := ⟨_, rfl⟩; have k7 : w6.grownBy W7 none := (by rw [hW7]; exact World.grownBy_alloc _ _ _); replace n4 := hide (((gr_trans k6 k7).block q lq.out (by simp)).trans n4.out); have HW7 := hide hW7; have HB := hide hB; clear k6 k7)
    | (refine wpList_store_row rfl 34 _ _ rfl w6.heap.size (stC y none 0 none 0 none 0) rfl rfl _ _ (World.alloc_heap_new w6 _) (step_size _ _ _ _ _ _ _) rfl (step_one _ _ _ _ _ _ _) ?_; rw [setRow_alloc, ← hW7, ← hB]; clear hW7 hB)
    | (go_at_call 28; refine (HSK.out ca ta ka cc tc kc _).mono ?_; rintro e w8 ⟨rfl, k8⟩; obtain ⟨c2, f2, n5, k5⟩ := cell_mid2 (j := 13) (v := .int .i64 sk) HW7.out HB.out g6.out k8 rfl HS.out; obtain ⟨W3, hW3⟩ : ∃ W3, W3 = w8.setCell ⟨B, 13, none⟩ (.int .i64 sk) := ⟨_, rfl⟩; rw [← hW3] at n5 k5; replace n5 := hide n5; replace k5 := hide k5; have HW3 := hide hW3; clear hW3 k8 n4)
    | (rw [← HW3.out]; refine wpList_load_row rfl 34 _ rfl B rfl _ (stC { y with skip := sk } none 0 none 0 none 0) _ _ n5.out Tryd.underlying34 rfl (step_size _ _ _ _ _ _ _) ?_)
    | (refine wpList_store_row rfl 34 _ _ rfl w.heap.size (stC { y with skip := sk } none 0 none 0 none 0) rfl rfl _ _ (R0.out W3 k5.out) (step_size _ _ _ _ _ _ _) rfl (step_one _ _ _ _ _ _ _) ?_))
  exact step_ret rfl (HE.out W3 k5.out).1 rfl rfl (HE.out W3 k5.out).2
set_option maxRecDepth 100000 in
set_option maxHeartbeats 4000000 in
theorem tparse_ok (hRd : tReads rd) (hOk : ∀ ws, SdOk (rd ws)) (hLd : Laid w) (h : Bu w a len cap l) (hlen : len ≤ 9223372036854000000) (he : (lineN l).2.2 = 0) (hf : faultSd (rd (wordsL (lineN l).1)) = []) : Calls Tryd.prog 11 #[.slice a len cap, .func (.func 12) #[] #[]] w fun e w' => ParseEnd (finSd (rd (wordsL (lineN l).1)) (l.drop (lineN l).2.1.toNat) (lineN l).2.1) w e w' := by
  obtain ⟨hx1, u, hu, hul⟩ := line_used he
  obtain ⟨W0, hW0⟩ : ∃ W0, W0 = w.alloc (.cells #[.slice none 0 0, .int .i64 0, .string ⟨#[]⟩, .int .i64 0, .int .u32 0, .bool false, .bool false, .string ⟨#[]⟩, .slice none 0 0, .slice none 0 0, .bool false, .string ⟨#[]⟩, .int .i64 0, .int .i64 0, .bool false, .int .i64 0] 34) := ⟨_, rfl⟩
  have g0 : w.grownBy W0 none := by rw [hW0]; exact World.grownBy_alloc _ _ _
  have r0 : W0.heap[w.heap.size]? = some (.cells #[.slice none 0 0, .int .i64 0, .string ⟨#[]⟩, .int .i64 0, .int .u32 0, .bool false, .bool false, .string ⟨#[]⟩, .slice none 0 0, .slice none 0 0, .bool false, .string ⟨#[]⟩, .int .i64 0, .int .i64 0, .bool false, .int .i64 0] 34 (0, 0)) := by rw [hW0]; exact World.alloc_heap_new w _
  have hz0 : W0.heap.size = w.heap.size + 1 := by rw [hW0, World.size_alloc]
  have R0 := hide (fun (w1 : World) (g1 : W0.grownBy w1 none) => (g1.block w.heap.size (by omega) (by simp)).trans r0)
  have G0 := hide g0
  have HL := hide (line_any (h.on (below_gr g0)))
  have hn := h.n
  have hm := h.m
  have hc := h.c
  unfold maxLen at hm
  obtain ⟨a', hsl, hbk⟩ := h.back (i := u) (by omega)
  have HBK := hide (fun (W : World) (hg : w.grownBy W none) => hbk W (h.on (below_gr hg)))
  generalize lineN l = x at *
  obtain ⟨x1, x2, x3⟩ := x
  simp only [lineV] at *
  subst he hu
  rw [Int.toNat_natCast]
  have HX : Hid ((⟨x1.toArray⟩ : ByteArray).size ≤ 5000) := by show (⟨x1.toArray⟩ : ByteArray).size ≤ 5000; have := size_mk x1; unfold mkB at this; omega
  have HWL : Hid ((wordsL x1).length ≤ 2100) := by show (wordsL x1).length ≤ 2100; have := wordsL_len x1; omega
  have HWE : Hid (∀ y ∈ wordsL x1, y.length ≤ 2100) := fun y hy => by have := wordsL_each x1 y hy; omega
  have HO := hOk (wordsL x1)
  obtain ⟨s, hs⟩ : ∃ s, rd (wordsL x1) = s := ⟨_, rfl⟩
  have HRD := hide hs
  rw [hs] at HO hf ⊢
  have HFA := hide (fun ca ta ka cc tc kc W => fault_any s HO ca ta ka cc tc kc W)
  obtain ⟨-, hsz⟩ := faultSd_nil hf
  have HFN := hide (fun (n0 : Nat) (W : World) (ca ta ka : Option Addr) (cc tc kc : Nat) (hA : SdAt n0 W s ca cc ta tc ka kc) (hn0 : n0 ≤ W.heap.size) (b3 : Bu W a' (len - u) (cap - u) (l.drop u)) => finish_any hA hn0 ⟨HO.lo, hsz⟩ b3 (u : Int) (by omega))
  rw [hf] at HFA
  generalize finSd s (l.drop u) (u : Int) = y at *
  replace hLd := hide hLd
  replace hRd := hide hRd
  have HSL := hide hsl
  have hui : (u : Int) ≤ (len : Int) := by omega
  clear h r0 g0 hs HO hOk hf hsz hbk hul hn hc hm hlen hx1 hsl hui
  go_enter Tryd.func11, Tryd.ntmps11
  go_upto_region 15 with (first
    | (go_at_call 24; rw [← hW0]; refine HL.out.mono ?_; rintro e w1 ⟨rfl, g1⟩; have LD1 := hide (hLd.out.on (below_gr (gr_trans G0.out g1))); replace g1 := hide g1)
    | (go_at_call 26; refine (gather_any ⟨x1.toArray⟩ HX.out _).mono ?_; rintro e w2 ⟨v2, rfl, o2, b2⟩; obtain ⟨wa, wc, rfl, U2⟩ := gathered o2; have C2 := hide (hRd.out w2 wa wc (wordsL x1) (LD1.out.on (below_gr (gr_of_below b2))) HWL.out HWE.out U2); have g2 := hide (gr_trans g1.out (gr_of_below b2)); clear o2 b2 U2)
    | (go_at_call 12; refine C2.out.mono ?_; rw [HRD.out]; rintro e w3 ⟨ca, cc, ta, tc, ka, kc, rfl, A3, k3⟩; have g3 := hide (gr_trans g2.out k3); replace A3 := hide A3; obtain ⟨q, hq⟩ : ∃ q, q = w3.heap.size := ⟨_, rfl⟩; obtain ⟨W4, hW4⟩ : ∃ W4, W4 = w3.alloc (.cells (sdC s ca cc ta tc ka kc) 57) := ⟨_, rfl⟩; have n4 : W4.heap[q]? = some (.cells (sdC s ca cc ta tc ka kc) 57 (0, 0)) := (by rw [hW4, hq]; exact World.alloc_heap_new _ _); have h4 := hide (show w3.grownBy W4 none from by rw [hW4]; exact World.grownBy_alloc _ _ _); have lq : q < W4.heap.size := (by rw [hW4, hq, World.size_alloc]; omega); have z3 := hide hq; replace n4 := hide n4; replace lq := hide lq; replace k3 := hide k3)
    | (refine wpList_store_row rfl 57 _ _ rfl w3.heap.size (sdC s ca cc ta tc ka kc) rfl rfl _ _ (World.alloc_heap_new w3 _) (said_size _ _ _ _ _ _ _) rfl (said_one _ _ _ _ _ _ _) ?_; rw [setRow_alloc, ← hW4, ← hq]; clear hW4 hq)
    | (have t_ := n4; clear t_; refine wpList_load_row rfl 57 _ rfl q rfl _ (sdC s ca cc ta tc ka kc) _ _ n4.out Tryd.underlying57 rfl (said_size _ _ _ _ _ _ _) ?_; have t4 := hide trivial)
    | (go_at_call 27; refine (HFA.out ca ta ka cc tc kc _).mono ?_; rintro e w5 ⟨rfl, k5⟩; have g5 := hide (gr_trans g3.out (gr_trans h4.out k5)); have j5 := hide (gr_trans h4.out k5); replace n4 := hide ((k5.block q lq.out (by simp)).trans n4.out); replace lq := hide (Nat.lt_of_lt_of_le lq.out k5.size); clear k5; simp only [mkB])
    | fail)
  refine region_ctail (C := fun W' => w5.grownBy W' none) 5 (by kernel_rfl) (by simp) (by kernel_rfl) (gr_of_below (Below.drew (Below.refl _ _))) ?_
  simp only [List.take_succ_cons, List.take_zero, List.drop_succ_cons, List.drop_zero]
  refine class_put (a' := ?fr0) (.agg (sdC s ca cc ta tc ka kc)) rfl (fun W hC => quiet_row 57 _ rfl q rfl ((hC.block q lq.out (by simp)).trans n4.out) Tryd.underlying57 rfl (said_size _ _ _ _ _ _ _)) (by simp only [Act.put, List.setIfInBounds_toArray, List.set_cons_zero, List.set_cons_succ]; rfl) ?nx0
  refine class_put (a' := ?fr1) (.slice a len cap) rfl (fun W hC => by unfold Oper.quietAt; go_simp) (by simp only [Act.put, List.setIfInBounds_toArray, List.set_cons_zero, List.set_cons_succ]; rfl) ?nx1
  refine class_put (a' := ?fr2) (.int .i64 (u : Int)) rfl (fun W hC => by unfold Oper.quietAt; go_simp) (by simp only [Act.put, List.setIfInBounds_toArray, List.set_cons_zero, List.set_cons_succ]; rfl) ?nx2
  refine class_put (a' := ?fr3) (.slice a' (len - u) (cap - u)) rfl (fun W hC => by have s_ := HSL.out W; unfold Oper.quietAt; go_simp) (by simp only [Act.put, List.setIfInBounds_toArray, List.set_cons_zero, List.set_cons_succ]; rfl) ?nx3
  refine class_put (a' := ?fr4) (.int .i64 (u : Int)) rfl (fun W hC => by unfold Oper.quietAt; go_simp) (by simp only [Act.put, List.setIfInBounds_toArray, List.set_cons_zero, List.set_cons_succ]; rfl) ?nx4
  refine wpQuiet_nil ?_
  intro W6 C6
  have g6 := gr_trans g5.out C6
  have hn0 : w2.heap.size ≤ W6.heap.size := Nat.le_trans (gr_trans k3.out j5.out).size C6.size
  have hw0 : W0.heap.size ≤ w2.heap.size := g2.out.size
  have A6 : SdAt w2.heap.size W6 s ca cc ta tc ka kc := SdAt.on A3.out (gr_trans j5.out C6)
  have F6 := hide (HFN.out w2.heap.size W6 ca ta ka cc tc kc A6 hn0 (HBK.out W6 (gr_trans G0.out g6)))
  clear A6 hn0
  replace g6 := hide g6
  replace hw0 := hide hw0
  go_wp2_with (first
    | (go_at_call 29; refine F6.out.mono ?_; rintro e w7 f7; obtain ⟨cb, cd, tb, td, kb, kd, rfl, q7, g7⟩ := fin_over f7 g6.out hw0.out; replace q7 := hide q7; replace g7 := hide g7; clear f7)
    | (refine wpList_store_row rfl 34 _ _ rfl w.heap.size (stC y cb cd tb td kb kd) rfl rfl _ _ (R0.out w7 g7.out) (step_size _ _ _ _ _ _ _) rfl (step_one _ _ _ _ _ _ _) ?_))
  have PE := parse_end (w := w) (n0 := w2.heap.size) (R0.out w7 g7.out) (by have := hw0.out; omega) (gr_trans G0.out g7.out) q7.out
  exact step_ret rfl PE.1 rfl rfl PE.2
theorem tlparse_any (hRd : tReads rd) (hOk : ∀ ws, SdOk (rd ws)) (hLd : Laid w) (h : Bu w a len cap l) (hlen : len ≤ 9223372036854000000) : Calls Tryd.prog 11 #[.slice a len cap, .func (.func 12) #[] #[]] w fun e w' => ParseEnd (parseSd rd l) w e w' := by
  unfold parseSd
  rcases line_ways l with he | he | he
  · rw [if_pos he]
    exact parse_more _ h he
  · rw [if_neg (by omega), if_pos he]
    exact parse_long _ h he
  · rw [if_neg (by omega), if_neg (by omega)]
    unfold lineSd
    by_cases hf : faultSd (rd (wordsL (lineN l).1)) = []
    · rw [if_pos hf]
      exact tparse_ok hRd hOk hLd h hlen he hf
    · rw [if_neg hf]
      exact tparse_fault hRd hOk hLd h he hf
end
end Go.Proofs.YtfcmnkhfmofioaaDoor
