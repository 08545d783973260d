/- Words of package num: the words of the line, one by one, as long as one goes on. Conditions: the line takes at most 140737488351232 bytes. -/
import Derived.RangeFuncNested
import Derived.RangeFuncBound
import Derived.RangeFuncCalls
import Derived.RangeFuncLeaves
import Derived.RangeFuncBox
import Derived.Shelf.Abstract
import Derived.Shelf.RegionOpen
import Derived.WalkKit
import Derived.OwnWalkIn
import Derived.TacticsInMore
import Derived.LoopNIn
import Derived.LoopIn
import Derived.Maps.AppendAt
import Derived.Test.YtgekjakihocgnaaDoorWordsL
namespace Go.Proofs.YtgekjakihocgnaaDoor
open Go.RowKit Go.Shelf
attribute [local go_sem] Oper.semAt_some

/-- The line's box holds what it held. -/
def BoxKept (Bs : Nat) (W W' : World) : Prop := W'.cell? ⟨Bs, 0, none⟩ = W.cell? ⟨Bs, 0, none⟩

set_option maxRecDepth 100000 in
set_option maxHeartbeats 2000000 in
theorem words1_in (F : Fence) (n : Nat) (h29 : F.fn 53) (hro : F.round = none) (hn : 1 ≤ n) (l Bs : Nat) (s : ByteArray) (hs : s.size ≤ 140737488351232) (J Jx : List ByteArray → World → Prop)
    (hY : ∀ pre x W, J pre W → pre.length < (wordsB s).length → YieldAt F (n - 1) Tryd.prog l #[.string x] W fun e W' =>
      (e = .returned (.bool true) ∧ J (pre ++ [x]) W' ∧ BoxKept Bs W W') ∨ (e = .returned (.bool false) ∧ Jx (pre ++ [x]) W'))
    (W : World) (hBs : W.cell? ⟨Bs, 0, none⟩ = some (.string s)) (h0 : J [] W) :
    CallsIn F n Tryd.prog 53 #[.func (.yield l) #[] #[], .pointer (some ⟨Bs, 0, none⟩)] W fun e W' => (∃ v, e = .returned v) ∧
      ((∃ ys, ys = wordsB s ∧ J ys W') ∨ (∃ pre, pre <+: wordsB s ∧ Jx pre W')) := by
  have HL : Hid (s.data.toList.length = s.size) := size_list s
  refine callsIn_of_wp Tryd.func53 rfl h29 ?_ hro
  simp only [Tryd.ntmps53, List.size_toArray, List.length_cons, List.length_nil, Nat.reduceAdd, Nat.reduceSub, Array.replicate_succ, Array.replicate_zero, List.push_toArray, List.append_toArray, List.nil_append, List.cons_append]
  gi_wp2
  gi_loopw [3, 8] (fun st i wr => ∃ (k a : Nat) (pre : List ByteArray), k ≤ s.size + 1 ∧ a ≤ k ∧ i = .int .i64 k ∧ st = .int .i64 a ∧ Hid (wordsB s = pre ++ restW s a k) ∧ wr.cell? ⟨Bs, 0, none⟩ = some (.string s) ∧ J pre wr)
    (fun _ i _ => s.size + 1 - (intOf i).toNat)
  case atStart => exact ⟨0, 0, [], Nat.zero_le _, Nat.le_refl _, rfl, rfl, rfl, hBs, h0⟩
  case round =>
    obtain ⟨k, a, pre, hk, hak, rfl, rfl, HR, hc, hJ⟩ := hrel
    clear hBs h0
    by_cases hlt : k < s.size + 1
    · by_cases hgo : ∃ h : k < s.size, (s[k]'h) ≠ 32
      · obtain ⟨hks, hne⟩ := hgo
        have HS : Hid (wordsB s = pre ++ restW s a (k + 1)) := by
          have h1 := restL_go s.data.toList a k (by rw [HL.out]; exact hks) hak hne
          show _ = _
          rw [HR.out]
          unfold restW
          rw [h1]
        obtain ⟨c, hcc⟩ : ∃ c : Int, c = ((s[k]'hks).toNat : Int) := ⟨_, rfl⟩
        have hcn : ¬ c = 32 := by
          intro e
          apply hne
          apply UInt8.toNat_inj.1
          have : ((32 : UInt8).toNat : Int) = 32 := by decide
          omega
        have hcb : (c != 32) = true := by simpa using hcn
        have hc' : ((s[k]'hks).toNat : Int) = c := hcc.symm
        clear hcc hne
        gi_wp2
        go_roundw
        case rel => exact ⟨k + 1, a, pre, by omega, by omega, by go_num, rfl, HS, hc, hJ⟩
        case measure => simp [intOf]; omega
      · have hbl : ∀ h : k < s.data.toList.length, s.data.toList[k] = 32 := by
          intro h
          have h' : k < s.size := by rw [← HL.out]; exact h
          have := not_exists.1 hgo h'
          have e : (s[k]'h') = 32 := by simpa using this
          exact e
        have hkl : k ≤ s.data.toList.length := by rw [HL.out]; omega
        have hst : (∃ h : k < s.size, ((s[k]'h).toNat : Int) = 32) ∨ ¬ k < s.size := by
          by_cases h : k < s.size
          · left
            refine ⟨h, ?_⟩
            have := not_exists.1 hgo h
            have e : (s[k]'h) = 32 := by simpa using this
            rw [e]; rfl
          · right; exact h
        by_cases hw : a < k
        · obtain ⟨x, hx⟩ : ∃ x, x = s.extract a k := ⟨_, rfl⟩
          have HS : Hid (wordsB s = (pre ++ [x]) ++ restW s (k + 1) (k + 1)) := by
            have h1 := restL_word s.data.toList a k hkl hw hbl
            show _ = _
            rw [HR.out]
            unfold restW
            rw [h1, List.map_cons, hx, extract_mk]
            simp
          have hplen : pre.length < (wordsB s).length := by
            have := congrArg List.length HS.out
            simp at this
            omega
          obtain ⟨fn, tmps, assign, body, hy, hR⟩ := hY pre x wr hJ hplen
          have hsl : ∀ W, (Instr.slice 9 (.string s) (some (.int .i64 a)) (some (.int .i64 k)) none).run Tryd.prog W = .ok (.string x) W := fun W => by
            rw [run_slice_string W 9 s .i64 .i64 a k Tryd.underlying9 (by omega) (by omega) (by omega), hx]
            simp
          clear hbl hgo hkl hplen hx
          rcases hst with ⟨hks, h32⟩ | hks
          all_goals
            gi_wp2
            refine hR.mono ?_
            rintro e W3 (⟨rfl, hJ3, hk3⟩ | ⟨rfl, hJx3⟩)
            · have hc3 : W3.cell? ⟨Bs, 0, none⟩ = some (.string s) := Eq.trans hk3 hc
              gi_wp2
              go_roundw
              case rel => exact ⟨k + 1, k + 1, pre ++ [x], by omega, by omega, by go_num, by go_num, HS, hc3, hJ3⟩
              case measure => simp [intOf]; omega
            · gi_wp2
              refine bodyPost_ret (results_none rfl _ _ _) rfl ?_
              exact ⟨⟨_, rfl⟩, .inr ⟨pre ++ [x], ⟨_, HS.out.symm⟩, hJx3⟩⟩
        · have HS : Hid (wordsB s = pre ++ restW s (k + 1) (k + 1)) := by
            have h1 := restL_skip s.data.toList a k hkl (by omega) hbl
            show _ = _
            rw [HR.out]
            unfold restW
            rw [h1]
          have hak2 : a = k := by omega
          subst hak2
          clear hbl hgo hkl
          rcases hst with ⟨hks, h32⟩ | hks
          all_goals
            gi_wp2
            refine ⟨fun _ h => (by cases h), ?_⟩
            gi_wp2
            go_roundw
            case rel => exact ⟨a + 1, a + 1, pre, by omega, by omega, by go_num, by go_num, HS, hc, hJ⟩
            case measure => simp [intOf]; omega
    · have HE : Hid (wordsB s = pre) := by
        have h1 := restL_end s.data.toList a k (by rw [HL.out]; omega)
        show _ = _
        rw [HR.out]
        unfold restW
        rw [h1]
        simp
      gi_wp2
      go_end0
      exact ⟨⟨_, rfl⟩, .inl ⟨pre, HE.out.symm, hJ⟩⟩

set_option maxHeartbeats 1000000 in
theorem wordsMk_in (F : Fence) (n : Nat) (h25 : F.fn 33) (hro : F.round = none) (s : ByteArray) (w : World) :
    CallsIn F n Tryd.prog 33 #[.string s] w fun e w' => e = .returned (.func (.func 53) #[] #[.pointer (some ⟨w.heap.size, 0, none⟩)]) ∧ w' = w.alloc (.cells #[.string s] 9) := by
  refine callsIn_of_wp Tryd.func33 rfl h25 ?_ hro
  simp only [Tryd.ntmps33, List.size_toArray, List.length_cons, List.length_nil, Nat.reduceAdd, Nat.reduceSub, Array.replicate_succ, Array.replicate_zero, List.push_toArray, List.append_toArray, List.nil_append, List.cons_append]
  gi_wp2
  go_ret
  exact ⟨rfl, rfl⟩

/-- What Words hands back tells all the words, or as many as one goes on with. -/
theorem words_stops (F : Fence) (n : Nat) (h29 : F.fn 53) (hro : F.round = none) (hn : 1 ≤ n) (Bs : Nat) (s : ByteArray) (hs : s.size ≤ 140737488351232) (w : World) (hBs : Bs < w.heap.size) (hc : w.cell? ⟨Bs, 0, none⟩ = some (.string s)) :
    SeqStopsK F n Tryd.prog 53 #[.pointer (some ⟨Bs, 0, none⟩)] (fun x : ByteArray => #[Value.string x]) (BoxKept Bs) (fun ys => ys = wordsB s) (fun pre => pre <+: wordsB s) (wordsB s).length w := fun l J Jx W hW _ _ hY h0 =>
  words1_in F n h29 hro hn l Bs s hs J Jx hY W ((hW.cell (p := ⟨Bs, 0, none⟩) hBs).trans hc) h0
end Go.Proofs.YtgekjakihocgnaaDoor
