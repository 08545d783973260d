/- What the document's own Decimal answers: the same number as that of package num; it writes nothing. Conditions: none but the text's length. -/
import Derived.Test.YtfcmnkhfmofioaaDoorG12Joined
namespace Go.Proofs.YtfcmnkhfmofioaaDoor
open Go.RowKit

/-- What is read of a text from place k on, the digits ahead having made a. -/
def restD (l : List UInt8) (k : Nat) (a : Int) : Lib.NumEnd Nat := Lib.parseUintM 18446744073709551615 a.toNat (l.drop k)
theorem dec_ofD {l : List UInt8} (h0 : l ≠ []) (h : l.length ≤ 40) : dec l = match restD l 0 0 with | .ok u => some u | _ => none := by
  unfold dec restD Lib.parseUintB
  rw [if_neg (by omega), if_neg h0]
  rfl
theorem restD_end (l : List UInt8) (k : Nat) (a : Int) (h : l.length ≤ k) : restD l k a = .ok a.toNat := by
  unfold restD
  rw [List.drop_of_length_le h]
  rfl
theorem restD_step (l : List UInt8) (k : Nat) (a : Int) (h : k < l.length) (h0 : 0 ≤ a) (c : Int) (hc : c = (l[k].toNat : Int)) (h48 : 48 ≤ c) (h57 : c ≤ 57) (hr : a ≤ (18446744073709551615 - (c - 48)) / 10) : restD l k a = restD l (k + 1) (10 * a + (c - 48)) := by
  unfold restD
  rw [List.drop_eq_getElem_cons h]
  simp only [Lib.parseUintM]
  rw [if_pos (by omega), if_neg (by omega), if_neg (by omega)]
  congr 1
  omega
theorem restD_nodigit (l : List UInt8) (k : Nat) (a : Int) (h : k < l.length) (c : Int) (hc : c = (l[k].toNat : Int)) (hd : c < 48 ∨ 57 < c) : (match restD l k a with | .ok u => some u | _ => none) = none := by
  unfold restD
  rw [List.drop_eq_getElem_cons h]
  simp only [Lib.parseUintM]
  rw [if_neg (by omega)]
theorem restD_range (l : List UInt8) (k : Nat) (a : Int) (h : k < l.length) (h0 : 0 ≤ a) (c : Int) (hc : c = (l[k].toNat : Int)) (h48 : 48 ≤ c) (h57 : c ≤ 57) (hr : (18446744073709551615 - (c - 48)) / 10 < a) : (match restD l k a with | .ok u => some u | _ => none) = none := by
  unfold restD
  rw [List.drop_eq_getElem_cons h]
  simp only [Lib.parseUintM]
  rw [if_pos (by omega)]
  by_cases h1 : 1844674407370955162 ≤ a.toNat
  · rw [if_pos h1]
  · rw [if_neg h1, if_pos (by omega)]
theorem ret_decD {l : List UInt8} {v : Int} {b : Bool} (h1 : decV l = v) (h2 : decB l = b) : Ending.returned (.tuple #[.int .u64 v, .bool b]) = .returned (.tuple #[.int .u64 (decV l), .bool (decB l)]) := by rw [h1, h2]
theorem get_atD (s : ByteArray) (k : Nat) (h : k < s.size) : (s[k]'h) = s.data.toList[k]'(by rw [size_list]; exact h) := rfl

set_option maxHeartbeats 2000000 in
theorem refDecimal_any (s : ByteArray) (hs : s.size ≤ 140737488351232) (w : World) :
    Calls Tryd.prog 37 #[.string s] w fun e w' => e = .returned (.tuple #[.int .u64 (decV s.data.toList), .bool (decB s.data.toList)]) ∧ w' = w := by
  have hl := size_list s
  by_cases h40 : s.size = 0 ∨ 40 < s.size
  · have e1 : dec s.data.toList = none := by
      rcases h40 with h | h
      · have e : s.data.toList = [] := List.eq_nil_of_length_eq_zero (by omega)
        rw [e]; rfl
      · simp [dec, hl, h]
    rw [show decV s.data.toList = 0 by simp [decV, e1], show decB s.data.toList = false by simp [decB, e1]]
    clear e1 hl
    rcases h40 with h | h
    · have hi : (s.size : Int) = 0 := by omega
      go_enter Tryd.func37, Tryd.ntmps37
      go_wp2
      go_ret2
      exact ⟨rfl, rfl⟩
    · have hi : (40 : Int) < (s.size : Int) := by omega
      have hz : ((s.size : Int) == 0) = false := by rw [beq_eq_false_iff_ne]; omega
      go_enter Tryd.func37, Tryd.ntmps37
      go_wp2
      go_ret2
      exact ⟨rfl, rfl⟩
  · have hi : ((s.size : Int) == 0) = false := by rw [beq_eq_false_iff_ne]; omega
    have hj : (s.size : Int) ≤ 40 := by omega
    have HD : Hid (dec s.data.toList = match restD s.data.toList 0 0 with | .ok u => some u | _ => none) := dec_ofD (by intro h; rw [h] at hl; simp at hl; omega) (by omega)
    have HL : Hid (s.data.toList.length = s.size) := hl
    clear h40 hl
    go_enter Tryd.func37, Tryd.ntmps37
    go_wp2
    go_loop [4, 5] (fun n i => ∃ (k : Nat) (a : Int), k ≤ s.size ∧ i = .int .i64 k ∧ n = .int .u64 a ∧ 0 ≤ a ∧ a ≤ 18446744073709551615 ∧ Hid (restD s.data.toList 0 0 = restD s.data.toList k a)) (fun _ i => s.size - (intOf i).toNat)
    case atStart => exact ⟨0, 0, Nat.zero_le _, rfl, rfl, by omega, by omega, rfl⟩
    case round =>
      obtain ⟨k, a, hk, rfl, rfl, ha0, ha1, HR⟩ := hrel
      by_cases hlt : k < s.size
      · have HK : Hid (k < s.data.toList.length) := by have := HL.out; show _ < _; omega
        obtain ⟨c, hc⟩ : ∃ c : Int, c = ((s[k]'hlt).toNat : Int) := ⟨_, rfl⟩
        have hc' : ((s[k]'hlt).toNat : Int) = c := hc.symm
        have HC : Hid (c = ((s.data.toList[k]'HK.out).toNat : Int)) := hc
        have hcb : 0 ≤ c ∧ c ≤ 255 := by have := (s[k]'hlt).toNat_lt; omega
        clear hc
        by_cases hd : c < 48 ∨ 57 < c
        · have HN : Hid (dec s.data.toList = none) := by show _ = _; rw [HD.out, HR.out]; exact restD_nodigit _ _ _ HK.out c HC.out hd
          rcases hd with hd | hd
          all_goals
            go_wp2
            go_ret2
            exact ⟨ret_decD (by simp [decV, HN.out]) (by simp [decB, HN.out]), rfl⟩
        · have h48 : 48 ≤ c := by omega
          have h57 : c ≤ 57 := by omega
          clear hd
          by_cases hr : (18446744073709551615 - (c - 48)) / 10 < a
          · have HN : Hid (dec s.data.toList = none) := by show _ = _; rw [HD.out, HR.out]; exact restD_range _ _ _ HK.out ha0 c HC.out h48 h57 hr
            go_wp2
            go_ret2
            exact ⟨ret_decD (by simp [decV, HN.out]) (by simp [decB, HN.out]), rfl⟩
          · have HS : Hid (restD s.data.toList 0 0 = restD s.data.toList (k + 1) (10 * a + (c - 48))) := HR.out.trans (restD_step _ _ _ HK.out ha0 c HC.out h48 h57 (by omega))
            go_wp2
            go_round
            case rel => exact ⟨k + 1, 10 * a + (c - 48), by omega, by go_num, rfl, by omega, by omega, HS⟩
            case measure => simp [intOf]; omega
      · have HN : Hid (dec s.data.toList = some a.toNat) := by show _ = _; rw [HD.out, HR.out, restD_end _ _ _ (by have := HL.out; omega)]
        go_wp2
        go_ret2
        exact ⟨ret_decD (by simp [decV, HN.out]; omega) (by simp [decB, HN.out]), rfl⟩
end Go.Proofs.YtfcmnkhfmofioaaDoor
