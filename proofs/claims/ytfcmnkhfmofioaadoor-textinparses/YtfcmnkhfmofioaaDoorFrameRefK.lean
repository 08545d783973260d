/- The document's own Key and Keyed. Conditions: none. -/
import Derived.Test.YtfcmnkhfmofioaaDoorG04Joined
namespace Go.Proofs.YtfcmnkhfmofioaaDoor
open Go.RowKit

set_option maxRecDepth 100000 in
set_option maxHeartbeats 1000000 in
theorem rkey_any (s : ByteArray) (w : World) : Calls Tryd.prog 38 #[.string s] w fun e w' => e = .returned (.bool (keyN s.data.toList)) ∧ w = w' := by
  have hsl : s.data.toList.length = s.size := rfl
  unfold keyN keyedN
  rw [hsl]
  by_cases h0 : 1 ≤ s.size
  · have i0 : ¬ (s.size : Int) < 1 := by omega
    by_cases h1 : s.size ≤ 250
    · have i1 : ¬ (250 : Int) < (s.size : Int) := by omega
      rw [decide_eq_true h0, decide_eq_true h1, Bool.true_and, Bool.true_and]
      obtain ⟨R, HRR⟩ : ∃ R, Hid (s.data.toList.all signN = R) := ⟨_, rfl⟩
      rw [HRR.out]
      go_enter Tryd.func38, Tryd.ntmps38
      go_wp2
      go_loopw [3] (fun i wr => ∃ k : Nat, k ≤ s.size ∧ i = .int .i64 k ∧ Hid (R = (s.data.toList.drop k).all signN) ∧ w = wr) (fun i _ => s.size - (intOf i).toNat)
      case atStart => exact ⟨0, by omega, rfl, HRR.out.symm, rfl⟩
      case round =>
        obtain ⟨k, hk, rfl, HR, rfl⟩ := hrel
        by_cases hlt : k < s.size
        · have HA := hide (all_at (l := s.data.toList) (k := k) hlt)
          obtain ⟨z, hz⟩ : ∃ z : Nat, (s[k]'hlt).toNat = z := ⟨_, rfl⟩
          by_cases hq : 32 < z ∧ z ≠ 127
          · have HF : Hid (R = (s.data.toList.drop (k + 1)).all signN) := by
              show _ = _
              rw [HR.out, HA.out]
              have : signN s.data.toList[k] = true := by
                have e : s.data.toList[k] = s[k]'hlt := rfl
                unfold signN
                rw [e, hz, decide_eq_true hq.1, decide_eq_true hq.2]
                rfl
              rw [this]
              rfl
            have j1 : ¬ (z : Int) ≤ 32 := by omega
            have j2 : ¬ (z : Int) = 127 := by omega
            clear hq HA
            go_wp2
            go_roundw
            case rel => exact ⟨k + 1, by omega, by go_num, HF, by first | trivial | rfl⟩
            case measure => first | (simp [intOf]; done) | (simp [intOf]; omega)
          · have HF : Hid (R = false) := by
              show _ = _
              rw [HR.out, HA.out]
              have : signN s.data.toList[k] = false := by
                have e : s.data.toList[k] = s[k]'hlt := rfl
                unfold signN
                rw [e, hz]
                by_cases h5 : 32 < z
                · have : z = 127 := by omega
                  rw [this]
                  rfl
                · rw [decide_eq_false h5]
                  rfl
              rw [this]
              rfl
            have HX := hide hq
            by_cases h5 : (z : Int) ≤ 32
            · clear hq HA
              go_wp2
              go_ret
              exact ⟨by rw [HF.out]; rfl, rfl⟩
            · have h6 : (z : Int) = 127 := by omega
              clear hq HA
              go_wp2
              go_ret
              exact ⟨by rw [HF.out]; rfl, rfl⟩
        · have HF : Hid (R = true) := by
            show _ = _
            rw [HR.out, List.drop_eq_nil_of_le (by rw [hsl]; omega)]
            rfl
          go_wp2
          go_ret
          exact ⟨by rw [HF.out]; rfl, rfl⟩
    · have i1 : (250 : Int) < (s.size : Int) := by omega
      rw [decide_eq_false h1, Bool.and_false, Bool.false_and]
      clear h0 h1
      go_enter Tryd.func38, Tryd.ntmps38
      go_wp2
      go_ret
      exact ⟨rfl, rfl⟩
  · have i0 : (s.size : Int) < 1 := by omega
    rw [decide_eq_false h0, Bool.false_and, Bool.false_and]
    clear h0
    go_enter Tryd.func38, Tryd.ntmps38
    go_wp2
    go_ret
    exact ⟨rfl, rfl⟩
end Go.Proofs.YtfcmnkhfmofioaaDoor
