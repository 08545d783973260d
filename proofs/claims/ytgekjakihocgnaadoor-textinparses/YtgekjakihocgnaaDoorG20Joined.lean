/- What the document's own Decimal answers: the same number as that of package num; it writes nothing. Conditions: none but the text's length. What the document's own Signed answers: the same number. Conditions: none but the text's length. What the document's own Words answers: a new slice of just the line's words. Conditions: the line has at most 5000 bytes. -/
import Derived.Test.YtgekjakihocgnaaDoorMath
import Derived.Test.YtgekjakihocgnaaDoorG05Joined
import Derived.Test.YtgekjakihocgnaaDoorWords
import Derived.Test.YtgekjakihocgnaaDoorStrRow
namespace Go.Proofs.YtgekjakihocgnaaDoor
open Go.RowKit

/-- What is read of a text from place k on, the digits ahead having made a. -/
def restD (l : List UInt8) (k : Nat) (a : Int) : Lib.NumEnd Nat := Lib.parseUintM 18446744073709551615 a.toNat (l.drop k)
theorem dec_ofD {l : List UInt8} (h0 : l ≠ []) (h : l.length ≤ 40) : dec l = match restD l 0 0 with | .ok u => some u | _ => none := by
  unfold dec restD Lib.parseUintB
  rw [if_neg (by omega), if_neg h0]
  rfl
theorem restD_end (l : List UInt8) (k : Nat) (a : Int) (h : l.length ≤ k) : restD l k a = .ok a.toNat := by
  unfold restD
  rw [List.drop_of_length_le h]
  rfl
theorem restD_step (l : List UInt8) (k : Nat) (a : Int) (h : k < l.length) (h0 : 0 ≤ a) (c : Int) (hc : c = (l[k].toNat : Int)) (h48 : 48 ≤ c) (h57 : c ≤ 57) (hr : a ≤ (18446744073709551615 - (c - 48)) / 10) : restD l k a = restD l (k + 1) (10 * a + (c - 48)) := by
  unfold restD
  rw [List.drop_eq_getElem_cons h]
  simp only [Lib.parseUintM]
  rw [if_pos (by omega), if_neg (by omega), if_neg (by omega)]
  congr 1
  omega
theorem restD_nodigit (l : List UInt8) (k : Nat) (a : Int) (h : k < l.length) (c : Int) (hc : c = (l[k].toNat : Int)) (hd : c < 48 ∨ 57 < c) : (match restD l k a with | .ok u => some u | _ => none) = none := by
  unfold restD
  rw [List.drop_eq_getElem_cons h]
  simp only [Lib.parseUintM]
  rw [if_neg (by omega)]
theorem restD_range (l : List UInt8) (k : Nat) (a : Int) (h : k < l.length) (h0 : 0 ≤ a) (c : Int) (hc : c = (l[k].toNat : Int)) (h48 : 48 ≤ c) (h57 : c ≤ 57) (hr : (18446744073709551615 - (c - 48)) / 10 < a) : (match restD l k a with | .ok u => some u | _ => none) = none := by
  unfold restD
  rw [List.drop_eq_getElem_cons h]
  simp only [Lib.parseUintM]
  rw [if_pos (by omega)]
  by_cases h1 : 1844674407370955162 ≤ a.toNat
  · rw [if_pos h1]
  · rw [if_neg h1, if_pos (by omega)]
theorem ret_decD {l : List UInt8} {v : Int} {b : Bool} (h1 : decV l = v) (h2 : decB l = b) : Ending.returned (.tuple #[.int .u64 v, .bool b]) = .returned (.tuple #[.int .u64 (decV l), .bool (decB l)]) := by rw [h1, h2]
theorem get_atD (s : ByteArray) (k : Nat) (h : k < s.size) : (s[k]'h) = s.data.toList[k]'(by rw [size_list]; exact h) := rfl

set_option maxHeartbeats 2000000 in
theorem refDecimal_any (s : ByteArray) (hs : s.size ≤ 140737488351232) (w : World) :
    Calls Tryd.prog 41 #[.string s] w fun e w' => e = .returned (.tuple #[.int .u64 (decV s.data.toList), .bool (decB s.data.toList)]) ∧ w' = w := by
  have hl := size_list s
  by_cases h40 : s.size = 0 ∨ 40 < s.size
  · have e1 : dec s.data.toList = none := by
      rcases h40 with h | h
      · have e : s.data.toList = [] := List.eq_nil_of_length_eq_zero (by omega)
        rw [e]; rfl
      · simp [dec, hl, h]
    rw [show decV s.data.toList = 0 by simp [decV, e1], show decB s.data.toList = false by simp [decB, e1]]
    clear e1 hl
    rcases h40 with h | h
    · have hi : (s.size : Int) = 0 := by omega
      go_enter Tryd.func41, Tryd.ntmps41
      go_wp2
      go_ret2
      exact ⟨rfl, rfl⟩
    · have hi : (40 : Int) < (s.size : Int) := by omega
      have hz : ((s.size : Int) == 0) = false := by rw [beq_eq_false_iff_ne]; omega
      go_enter Tryd.func41, Tryd.ntmps41
      go_wp2
      go_ret2
      exact ⟨rfl, rfl⟩
  · have hi : ((s.size : Int) == 0) = false := by rw [beq_eq_false_iff_ne]; omega
    have hj : (s.size : Int) ≤ 40 := by omega
    have HD : Hid (dec s.data.toList = match restD s.data.toList 0 0 with | .ok u => some u | _ => none) := dec_ofD (by intro h; rw [h] at hl; simp at hl; omega) (by omega)
    have HL : Hid (s.data.toList.length = s.size) := hl
    clear h40 hl
    go_enter Tryd.func41, Tryd.ntmps41
    go_wp2
    go_loop [4, 5] (fun n i => ∃ (k : Nat) (a : Int), k ≤ s.size ∧ i = .int .i64 k ∧ n = .int .u64 a ∧ 0 ≤ a ∧ a ≤ 18446744073709551615 ∧ Hid (restD s.data.toList 0 0 = restD s.data.toList k a)) (fun _ i => s.size - (intOf i).toNat)
    case atStart => exact ⟨0, 0, Nat.zero_le _, rfl, rfl, by omega, by omega, rfl⟩
    case round =>
      obtain ⟨k, a, hk, rfl, rfl, ha0, ha1, HR⟩ := hrel
      by_cases hlt : k < s.size
      · have HK : Hid (k < s.data.toList.length) := by have := HL.out; show _ < _; omega
        obtain ⟨c, hc⟩ : ∃ c : Int, c = ((s[k]'hlt).toNat : Int) := ⟨_, rfl⟩
        have hc' : ((s[k]'hlt).toNat : Int) = c := hc.symm
        have HC : Hid (c = ((s.data.toList[k]'HK.out).toNat : Int)) := hc
        have hcb : 0 ≤ c ∧ c ≤ 255 := by have := (s[k]'hlt).toNat_lt; omega
        clear hc
        by_cases hd : c < 48 ∨ 57 < c
        · have HN : Hid (dec s.data.toList = none) := by show _ = _; rw [HD.out, HR.out]; exact restD_nodigit _ _ _ HK.out c HC.out hd
          rcases hd with hd | hd
          all_goals
            go_wp2
            go_ret2
            exact ⟨ret_decD (by simp [decV, HN.out]) (by simp [decB, HN.out]), rfl⟩
        · have h48 : 48 ≤ c := by omega
          have h57 : c ≤ 57 := by omega
          clear hd
          by_cases hr : (18446744073709551615 - (c - 48)) / 10 < a
          · have HN : Hid (dec s.data.toList = none) := by show _ = _; rw [HD.out, HR.out]; exact restD_range _ _ _ HK.out ha0 c HC.out h48 h57 hr
            go_wp2
            go_ret2
            exact ⟨ret_decD (by simp [decV, HN.out]) (by simp [decB, HN.out]), rfl⟩
          · have HS : Hid (restD s.data.toList 0 0 = restD s.data.toList (k + 1) (10 * a + (c - 48))) := HR.out.trans (restD_step _ _ _ HK.out ha0 c HC.out h48 h57 (by omega))
            go_wp2
            go_round
            case rel => exact ⟨k + 1, 10 * a + (c - 48), by omega, by go_num, rfl, by omega, by omega, HS⟩
            case measure => simp [intOf]; omega
      · have HN : Hid (dec s.data.toList = some a.toNat) := by show _ = _; rw [HD.out, HR.out, restD_end _ _ _ (by have := HL.out; omega)]
        go_wp2
        go_ret2
        exact ⟨ret_decD (by simp [decV, HN.out]; omega) (by simp [decB, HN.out]), rfl⟩
end Go.Proofs.YtgekjakihocgnaaDoor

namespace Go.Proofs.YtgekjakihocgnaaDoor
open Go.RowKit

set_option maxHeartbeats 2000000 in
theorem refSigned_any (s : ByteArray) (hs : s.size ≤ 140737488351232) (w : World) :
    Calls Tryd.prog 39 #[.string s] w fun e w' => e = .returned (.tuple #[.int .i64 (sgnV s.data.toList), .bool (sgnB s.data.toList)]) ∧ w' = w := by
  rcases sgn_cases s with ⟨h1, h0, he⟩ | ⟨h1, hp, h45, he⟩ | ⟨h1, hp, h45, he⟩
  · rcases dec_cases s.data.toList with ⟨d1, d2, e1, e2⟩ | ⟨u, hu, d1, d2, e1, e2⟩ | ⟨u, hu, d1, d2, e1, e2⟩
    all_goals
      rw [show sgnV s.data.toList = _ from (congrArg (·.getD 0) he).trans e1, show sgnB s.data.toList = _ from (congrArg (·.isSome) he).trans e2]
      clear he e1 e2
      go_enter Tryd.func39, Tryd.ntmps39
      go_wp2_with (go_at_call 41; refine (refDecimal_any s hs _).mono ?_; rintro e w' ⟨rfl, rfl⟩)
      go_ret2
      exact ⟨rfl, rfl⟩
  · have hE : s.toList.isEmpty = false := by simpa using h1
    have hx : (s.extract 1 s.size).size ≤ 140737488351232 := by rw [ByteArray.size_extract]; omega
    have hxl : (s.extract 1 s.size).data.toList = s.data.toList.drop 1 := extract_one s
    obtain ⟨t, ht⟩ : ∃ t, t = s.extract 1 s.size := ⟨_, rfl⟩
    rw [← ht] at hx hxl
    rcases dec_cases (s.data.toList.drop 1) with ⟨d1, d2, e1, e2⟩ | ⟨u, hu, d1, d2, e1, e2⟩ | ⟨u, hu, d1, d2, e1, e2⟩
    all_goals
      have e3 : sgnV s.data.toList = _ := (congrArg (·.getD 0) he).trans (neg_get e1)
      have e4 : sgnB s.data.toList = _ := (congrArg (·.isSome) he).trans (neg_some e2)
      rw [e3, e4]
      rw [← hxl] at d1 d2
      clear he e1 e2 e3 e4 hxl
      have ht' : s.extract 1 s.size = t := ht.symm
      clear ht
      go_enter Tryd.func39, Tryd.ntmps39
      go_wp2_with (go_at_call 41; refine (refDecimal_any t hx _).mono ?_; rintro e w' ⟨rfl, rfl⟩)
      go_ret2
      exact ⟨rfl, rfl⟩
  · have hE : s.toList.isEmpty = false := by simpa using h1
    rcases dec_cases s.data.toList with ⟨d1, d2, e1, e2⟩ | ⟨u, hu, d1, d2, e1, e2⟩ | ⟨u, hu, d1, d2, e1, e2⟩
    all_goals
      rw [show sgnV s.data.toList = _ from (congrArg (·.getD 0) he).trans e1, show sgnB s.data.toList = _ from (congrArg (·.isSome) he).trans e2]
      clear he e1 e2
      go_enter Tryd.func39, Tryd.ntmps39
      go_wp2_with (go_at_call 41; refine (refDecimal_any s hs _).mono ?_; rintro e w' ⟨rfl, rfl⟩)
      go_ret2
      exact ⟨rfl, rfl⟩
end Go.Proofs.YtgekjakihocgnaaDoor

namespace Go.Proofs.YtgekjakihocgnaaDoor
open Go.RowKit

theorem restL_stop (l : List UInt8) (a : Nat) (h : l.length ≤ a) : restL l a a = [] := by
  rcases Nat.lt_or_ge l.length a with h' | h'
  · exact restL_end l a a h'
  · unfold restL
    rw [if_pos h', List.drop_of_length_le h, List.drop_of_length_le (by rw [List.length_take]; omega)]
    rfl
theorem own_block9 {w : World} {base e size n : Nat} {v : Value} {xs : List Value} (h : w.ownsRow base e size v n xs) {b : Nat} (hb : v.ownBlock = some b) : base ≤ b := by
  rcases h.2 with ⟨rfl, _⟩ | ⟨g, cap, cur, rfl, hg, _⟩
  · cases hb
  · cases hb; exact hg

set_option maxHeartbeats 4000000 in
theorem refWords_any (s : ByteArray) (hs : s.size ≤ 5000) (w : World) :
    Calls Tryd.prog 17 #[.string s] w fun e W' => ∃ v, e = .returned v ∧ W'.ownsRow w.heap.size 9 1 v (wordsB s).length ((wordsB s).map Value.string) ∧ Below w.heap.size w W' := by
  have HL : Hid (s.data.toList.length = s.size) := size_list s
  have hlen := wordsB_len s
  obtain ⟨i0, hi, hz0, hz1, hz2⟩ := info_parts info_str
  go_enter Tryd.func17, Tryd.ntmps17
  go_wp2
  go_loopw [3, 4] (fun v i wr => ∃ (a : Nat) (pre : List ByteArray), a ≤ s.size + 1 ∧ i = .int .i64 a ∧ wr.ownsRow w.heap.size 9 1 v pre.length (pre.map Value.string) ∧ Below w.heap.size w wr ∧ Hid (wordsB s = pre ++ restW s a a))
    (fun _ i _ => s.size + 1 - (intOf i).toNat)
  case atStart => exact ⟨0, [], Nat.zero_le _, rfl, World.ownsRow_nil _ _ _ _, Below.refl _ _, rfl⟩
  case round =>
    obtain ⟨a, pre, ha, rfl, hown, hnx, HR⟩ := hrel
    by_cases hlt : a < s.size
    · go_wp2
      go_loop [5] (fun e => ∃ k : Nat, a ≤ k ∧ k ≤ s.size ∧ e = .int .i64 k ∧ Hid (wordsB s = pre ++ restW s a k)) (fun e => s.size - (intOf e).toNat)
      case atStart => exact ⟨a, Nat.le_refl _, by omega, rfl, HR⟩
      case round =>
        obtain ⟨k, hak, hks, rfl, HK⟩ := hrel
        by_cases hgo : ∃ h : k < s.size, (s[k]'h) ≠ 32
        · obtain ⟨hk, hne⟩ := hgo
          have HS : Hid (wordsB s = pre ++ restW s a (k + 1)) := by
            have h1 := restL_go s.data.toList a k (by rw [HL.out]; exact hk) hak hne
            show _ = _
            rw [HK.out]
            unfold restW
            rw [h1]
          have hcn : ¬ ((s[k]'hk).toNat : Int) = 32 := by
            intro e
            apply hne
            apply UInt8.toNat_inj.1
            have : ((32 : UInt8).toNat : Int) = 32 := by decide
            omega
          obtain ⟨c, hcc⟩ : ∃ c : Int, c = ((s[k]'hk).toNat : Int) := ⟨_, rfl⟩
          have hcb : (c != 32) = true := by rw [hcc]; simpa using hcn
          have hc' : ((s[k]'hk).toNat : Int) = c := hcc.symm
          clear hcc hne hcn
          go_wp2
          go_round
          case rel => exact ⟨k + 1, by omega, by omega, by go_num, HS⟩
          case measure => simp [intOf]; omega
        · have hbl : ∀ h : k < s.data.toList.length, s.data.toList[k] = 32 := by
            intro h
            have h' : k < s.size := by rw [← HL.out]; exact h
            have := not_exists.1 hgo h'
            have e : (s[k]'h') = 32 := by simpa using this
            exact e
          have hkl : k ≤ s.data.toList.length := by rw [HL.out]; omega
          have hst : (∃ h : k < s.size, ((s[k]'h).toNat : Int) = 32) ∨ ¬ k < s.size := by
            by_cases h : k < s.size
            · left
              refine ⟨h, ?_⟩
              have := not_exists.1 hgo h
              have e : (s[k]'h) = 32 := by simpa using this
              rw [e]; rfl
            · right; exact h
          by_cases hw : a < k
          · obtain ⟨x, hx⟩ : ∃ x, x = s.extract a k := ⟨_, rfl⟩
            have HS : Hid (wordsB s = (pre ++ [x]) ++ restW s (k + 1) (k + 1)) := by
              have h1 := restL_word s.data.toList a k hkl hw hbl
              show _ = _
              rw [HK.out]
              unfold restW
              rw [h1, List.map_cons, hx, extract_mk]
              simp
            have hpl : pre.length ≤ 5001 := by
              have := congrArg List.length HS.out
              simp at this
              omega
            have hsl : ∀ W, (Instr.slice 9 (.string s) (some (.int .i64 a)) (some (.int .i64 k)) none).run Tryd.prog W = .ok (.string x) W := fun W => by
              rw [run_slice_string W 9 s .i64 .i64 a k Tryd.underlying9 (by omega) (by omega) (by omega), hx]
              simp
            clear hbl hgo hkl hx HK HR
            rcases hst with ⟨hk, h32⟩ | hk
            all_goals
              go_wp2_with (at_builtin; refine wpList_append_own _ rfl _ _ 27 rfl w.heap.size 9 i0 (.string ⟨#[]⟩) 1 16 Tryd.underlying27 hi hz0 hz1 hz2 rfl (by decide) _ _ _ rfl (hown.alloc _) ⟨wr.heap.size, 0, none⟩ 1 1 [.string x] rfl rfl (cell_one_new _ _ _) (by simp [Value.oneCell']) (by unfold maxLen; omega) (by omega) (by have := hnx.size; simp; omega) ?_; intro v' w1 hown' hgrow _; have hb1 : Below w.heap.size w w1 := (hnx.alloc hnx.size _).grown hgrow (by have := hnx.size; simp; omega) (fun b hb => own_block9 hown hb))
              go_roundw
              case rel => exact ⟨k + 1, pre ++ [x], by omega, by go_num, by rw [List.length_append, List.map_append]; exact hown', hb1, HS⟩
              case measure => simp [intOf]; omega
          · have HS : Hid (wordsB s = pre ++ restW s (k + 1) (k + 1)) := by
              have h1 := restL_skip s.data.toList a k hkl (by omega) hbl
              show _ = _
              rw [HK.out]
              unfold restW
              rw [h1]
            clear hbl hgo hkl HK HR
            rcases hst with ⟨hk, h32⟩ | hk
            all_goals
              go_wp2
              go_roundw
              case rel => exact ⟨k + 1, pre, by omega, by go_num, hown, hnx, HS⟩
              case measure => simp [intOf]; omega
    · have HE : Hid (wordsB s = pre) := by
        have h1 := restL_stop s.data.toList a (by rw [HL.out]; omega)
        show _ = _
        rw [HR.out]
        unfold restW
        rw [h1]
        simp
      go_wp2
      go_ret
      exact ⟨_, rfl, by rw [HE.out]; exact hown, hnx⟩
end Go.Proofs.YtgekjakihocgnaaDoor
