/- What the document's own Words answers: a new slice of just the line's words. Conditions: the line has at most 5000 bytes. -/
import Derived.Test.YtfcmnkhfmofioaaDoorG10Joined
import Derived.Test.YtfcmnkhfmofioaaDoorG04Joined
namespace Go.Proofs.YtfcmnkhfmofioaaDoor
open Go.RowKit

theorem restL_stop (l : List UInt8) (a : Nat) (h : l.length ≤ a) : restL l a a = [] := by
  rcases Nat.lt_or_ge l.length a with h' | h'
  · exact restL_end l a a h'
  · unfold restL
    rw [if_pos h', List.drop_of_length_le h, List.drop_of_length_le (by rw [List.length_take]; omega)]
    rfl
theorem own_block9 {w : World} {base e size n : Nat} {v : Value} {xs : List Value} (h : w.ownsRow base e size v n xs) {b : Nat} (hb : v.ownBlock = some b) : base ≤ b := by
  rcases h.2 with ⟨rfl, _⟩ | ⟨g, cap, cur, rfl, hg, _⟩
  · cases hb
  · cases hb; exact hg

set_option maxHeartbeats 4000000 in
theorem refWords_any (s : ByteArray) (hs : s.size ≤ 5000) (w : World) :
    Calls Tryd.prog 15 #[.string s] w fun e W' => ∃ v, e = .returned v ∧ W'.ownsRow w.heap.size 9 1 v (wordsB s).length ((wordsB s).map Value.string) ∧ Below w.heap.size w W' := by
  have HL : Hid (s.data.toList.length = s.size) := size_list s
  have hlen := wordsB_len s
  obtain ⟨i0, hi, hz0, hz1, hz2⟩ := info_parts info_str
  go_enter Tryd.func15, Tryd.ntmps15
  go_wp2
  go_loopw [3, 4] (fun v i wr => ∃ (a : Nat) (pre : List ByteArray), a ≤ s.size + 1 ∧ i = .int .i64 a ∧ wr.ownsRow w.heap.size 9 1 v pre.length (pre.map Value.string) ∧ Below w.heap.size w wr ∧ Hid (wordsB s = pre ++ restW s a a))
    (fun _ i _ => s.size + 1 - (intOf i).toNat)
  case atStart => exact ⟨0, [], Nat.zero_le _, rfl, World.ownsRow_nil _ _ _ _, Below.refl _ _, rfl⟩
  case round =>
    obtain ⟨a, pre, ha, rfl, hown, hnx, HR⟩ := hrel
    by_cases hlt : a < s.size
    · go_wp2
      go_loop [5] (fun e => ∃ k : Nat, a ≤ k ∧ k ≤ s.size ∧ e = .int .i64 k ∧ Hid (wordsB s = pre ++ restW s a k)) (fun e => s.size - (intOf e).toNat)
      case atStart => exact ⟨a, Nat.le_refl _, by omega, rfl, HR⟩
      case round =>
        obtain ⟨k, hak, hks, rfl, HK⟩ := hrel
        by_cases hgo : ∃ h : k < s.size, (s[k]'h) ≠ 32
        · obtain ⟨hk, hne⟩ := hgo
          have HS : Hid (wordsB s = pre ++ restW s a (k + 1)) := by
            have h1 := restL_go s.data.toList a k (by rw [HL.out]; exact hk) hak hne
            show _ = _
            rw [HK.out]
            unfold restW
            rw [h1]
          have hcn : ¬ ((s[k]'hk).toNat : Int) = 32 := by
            intro e
            apply hne
            apply UInt8.toNat_inj.1
            have : ((32 : UInt8).toNat : Int) = 32 := by decide
            omega
          obtain ⟨c, hcc⟩ : ∃ c : Int, c = ((s[k]'hk).toNat : Int) := ⟨_, rfl⟩
          have hcb : (c != 32) = true := by rw [hcc]; simpa using hcn
          have hc' : ((s[k]'hk).toNat : Int) = c := hcc.symm
          clear hcc hne hcn
          go_wp2
          go_round
          case rel => exact ⟨k + 1, by omega, by omega, by go_num, HS⟩
          case measure => simp [intOf]; omega
        · have hbl : ∀ h : k < s.data.toList.length, s.data.toList[k] = 32 := by
            intro h
            have h' : k < s.size := by rw [← HL.out]; exact h
            have := not_exists.1 hgo h'
            have e : (s[k]'h') = 32 := by simpa using this
            exact e
          have hkl : k ≤ s.data.toList.length := by rw [HL.out]; omega
          have hst : (∃ h : k < s.size, ((s[k]'h).toNat : Int) = 32) ∨ ¬ k < s.size := by
            by_cases h : k < s.size
            · left
              refine ⟨h, ?_⟩
              have := not_exists.1 hgo h
              have e : (s[k]'h) = 32 := by simpa using this
              rw [e]; rfl
            · right; exact h
          by_cases hw : a < k
          · obtain ⟨x, hx⟩ : ∃ x, x = s.extract a k := ⟨_, rfl⟩
            have HS : Hid (wordsB s = (pre ++ [x]) ++ restW s (k + 1) (k + 1)) := by
              have h1 := restL_word s.data.toList a k hkl hw hbl
              show _ = _
              rw [HK.out]
              unfold restW
              rw [h1, List.map_cons, hx, extract_mk]
              simp
            have hpl : pre.length ≤ 5001 := by
              have := congrArg List.length HS.out
              simp at this
              omega
            have hsl : ∀ W, (Instr.slice 9 (.string s) (some (.int .i64 a)) (some (.int .i64 k)) none).run Tryd.prog W = .ok (.string x) W := fun W => by
              rw [run_slice_string W 9 s .i64 .i64 a k Tryd.underlying9 (by omega) (by omega) (by omega), hx]
              simp
            clear hbl hgo hkl hx HK HR
            rcases hst with ⟨hk, h32⟩ | hk
            all_goals
              go_wp2_with (at_builtin; refine wpList_append_own _ rfl _ _ 27 rfl w.heap.size 9 i0 (.string ⟨#[]⟩) 1 16 Tryd.underlying27 hi hz0 hz1 hz2 rfl (by decide) _ _ _ rfl (hown.alloc _) ⟨wr.heap.size, 0, none⟩ 1 1 [.string x] rfl rfl (cell_one_new _ _ _) (by simp [Value.oneCell']) (by unfold maxLen; omega) (by omega) (by have := hnx.size; simp; omega) ?_; intro v' w1 hown' hgrow _; have hb1 : Below w.heap.size w w1 := (hnx.alloc hnx.size _).grown hgrow (by have := hnx.size; simp; omega) (fun b hb => own_block9 hown hb))
              go_roundw
              case rel => exact ⟨k + 1, pre ++ [x], by omega, by go_num, by rw [List.length_append, List.map_append]; exact hown', hb1, HS⟩
              case measure => simp [intOf]; omega
          · have HS : Hid (wordsB s = pre ++ restW s (k + 1) (k + 1)) := by
              have h1 := restL_skip s.data.toList a k hkl (by omega) hbl
              show _ = _
              rw [HK.out]
              unfold restW
              rw [h1]
            clear hbl hgo hkl HK HR
            rcases hst with ⟨hk, h32⟩ | hk
            all_goals
              go_wp2
              go_roundw
              case rel => exact ⟨k + 1, pre, by omega, by go_num, hown, hnx, HS⟩
              case measure => simp [intOf]; omega
    · have HE : Hid (wordsB s = pre) := by
        have h1 := restL_stop s.data.toList a (by rw [HL.out]; omega)
        show _ = _
        rw [HR.out]
        unfold restW
        rw [h1]
        simp
      go_wp2
      go_ret
      exact ⟨_, rfl, by rw [HE.out]; exact hown, hnx⟩
end Go.Proofs.YtfcmnkhfmofioaaDoor
