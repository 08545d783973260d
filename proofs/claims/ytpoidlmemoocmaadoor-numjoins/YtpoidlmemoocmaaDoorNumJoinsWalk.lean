/- NumJoins returns true for every line, and writes nothing that was there. Conditions: the listed variables hold what the program's text lays. -/
import Derived.Test.YtpoidlmemoocmaaDoorSame
import Derived.Test.YtpoidlmemoocmaaDoorOwn
import Derived.Test.YtpoidlmemoocmaaDoorJoinM
namespace Go.Proofs.YtpoidlmemoocmaaDoor
open Go.RowKit

theorem Holds9.on {w w' : World} {v : Value} {xs : List ByteArray} (h : Holds9 w v xs) (hb : Below w.heap.size w w') : Holds9 w' v xs := by
  obtain ⟨a, cap, hv, hc⟩ := h
  refine ⟨a, cap, hv, fun i hi => ?_⟩
  obtain ⟨b, off, ha, hcell⟩ := hc i hi
  exact ⟨b, off, ha, (hb.cell (p := ⟨b, off + i, none⟩) (block_lt_of_cell hcell)).trans hcell⟩
theorem str_app (a b : List UInt8) : (⟨a.toArray⟩ : ByteArray) ++ ⟨b.toArray⟩ = ⟨(a ++ b).toArray⟩ := by
  apply ByteArray.ext
  rw [ByteArray.data_append]
  simp
theorem mkB_size (l : List UInt8) : (mkB l).size = l.length := by simp [mkB, ByteArray.size]
theorem wordsB_join (s : ByteArray) : wordsB (mkB (joinL (wordsL s.data.toList))) = wordsB s := by
  rw [wordsB_L, wordsB_L]
  have e : (mkB (joinL (wordsL s.data.toList))).data.toList = joinL (wordsL s.data.toList) := by simp [mkB]
  rw [e, wordsL_join]

set_option maxHeartbeats 4000000 in
theorem numJoins_in (s : ByteArray) (hs : s.size ≤ 5000) (w : World) (hL : Laid w) :
    Calls Tryd.prog 7 #[.string s] w fun e w' => e = .returned (.bool true) ∧ Below w.heap.size w w' := by
  have hsi : (s.size : Int) ≤ 5000 := by omega
  have hwl := wordsB_len s
  have e5 : (wordsB s).take (Int.toNat 5001) = wordsB s := List.take_of_length_le (by show _ ≤ 5001; omega)
  obtain ⟨L, HLL⟩ : ∃ L, L = wordsL s.data.toList := ⟨_, rfl⟩
  have HW : Hid (wordsB s = L.map mkB) := by rw [HLL]; exact wordsB_L s
  have HJ : Hid ((joinL L).length ≤ s.size) := by
    have := wordsL_len s.data.toList
    rw [size_list, ← HLL] at this
    exact this
  have HT : Hid (wordsB (mkB (joinL L)) = L.map mkB) := by rw [HLL, wordsB_join, wordsB_L]; rfl
  have C1 := Lib.hid (words_any s hs 5001)
  rw [e5] at C1
  have C2 : Hid (∀ W, Calls Tryd.prog 24 #[.string (mkB (joinL L)), .int .i64 5001] W fun e W' => ∃ v, e = .returned v ∧ W'.ownsRow W.heap.size 9 1 v (L.map mkB).length ((L.map mkB).map Value.string) ∧ Below W.heap.size W W') := by
    intro W
    have h := words_any (mkB (joinL L)) (by rw [mkB_size]; have := HJ.out; omega) 5001 W
    have hn : (wordsB (mkB (joinL L))).length ≤ 5001 := by
      rw [HT.out, ← HW.out]; omega
    rw [List.take_of_length_le (by exact hn), HT.out] at h
    exact h
  rw [HW.out] at C1
  obtain ⟨N, hN⟩ : ∃ N, L.length = N := ⟨_, rfl⟩
  have hmap : (L.map mkB).length = N := by rw [List.length_map, hN]
  have HN := Lib.hid hN
  have HM := Lib.hid hmap
  have hNl : N ≤ 5001 := by rw [← hmap, ← HW.out]; omega
  rw [hmap] at C1 C2
  clear e5 HLL hwl hN hmap
  go_enter Tryd.func7, Tryd.ntmps7
  go_wp2_with (first
    | (go_at_call 9; refine (awake_any _ (by assumption)).mono ?_; rintro e w' ⟨rfl, hb⟩)
    | (go_at_call 24; refine (C1.out _).mono ?_; clear C1; rintro e w2 ⟨v, rfl, ho, hb2⟩; have hB := Bt hb hb2; obtain ⟨a, cap, hva, hcells⟩ := holds_own (xs := L.map mkB) (by rw [HM.out]; exact ho); rw [HM.out] at hva hcells; subst hva; clear hb hb2))
  go_loop [5, 6] (fun t i => ∃ k : Nat, k ≤ N ∧ i = .int .i64 k ∧ t = .string (mkB (joinL (L.take k)))) (fun _ i => N - (intOf i).toNat)
  case atStart => exact ⟨0, Nat.zero_le _, rfl, rfl⟩
  case round =>
    obtain ⟨k, hk, rfl, rfl⟩ := hrel
    by_cases hlt : k < N
    · obtain ⟨b, off, rfl, hcell⟩ := hcells k hlt
      obtain ⟨x, hx⟩ : ∃ x, x = L.getD k [] := ⟨_, rfl⟩
      have hkL : k < L.length := by rw [HN.out]; exact hlt
      have e1 : (L.map mkB).getD k ByteArray.empty = mkB x := by
        rw [hx]
        simp [List.getD, List.getElem?_eq_getElem hkL]
      rw [e1] at hcell
      have etk : L.take (k + 1) = L.take k ++ [x] := by
        rw [List.take_succ_eq_append_getElem hkL, hx]
        simp [List.getD, List.getElem?_eq_getElem hkL]
      have hle : (joinL (L.take (k + 1))).length ≤ 5000 := by
        have h1 := joinL_mono (L.drop (k + 1)) (L.take (k + 1))
        rw [List.take_append_drop] at h1
        have := HJ.out
        omega
      rcases Nat.eq_zero_or_pos k with h0 | h0
      · subst h0
        have hxl : (mkB x).size ≤ 5000 := by
          rw [mkB_size]
          rw [etk] at hle
          simpa [joinL] using hle
        have HS : Hid (joinL (L.take 1) = x) := by
          show _ = _
          rw [etk]
          simp [joinL]
        obtain ⟨T, hT⟩ : ∃ T, T = mkB (joinL (L.take 0)) := ⟨_, rfl⟩
        rw [← hT]
        have hT0 : T.size ≤ 5000 := by rw [hT, mkB_size]; simp [joinL]
        have HT2 := Lib.hid hT
        rw [Nat.add_zero] at hcell
        clear hcells e1 etk hle hx hT
        have hk0 : (0 : Int) < (N : Int) := by omega
        go_wp2
        go_round
        case rel => exact ⟨1, by omega, by go_num, by rw [HT2.out, List.take_zero, HS.out]; exact congrArg Value.string (str_app [] x)⟩
        case measure => simp [intOf]; omega
      · have hne : L.take k ≠ [] := by
          intro h
          have := congrArg List.length h
          rw [List.length_take, List.length_nil] at this
          omega
        have HS : Hid (joinL (L.take (k + 1)) = joinL (L.take k) ++ 32 :: x) := by
          show _ = _
          rw [etk, joinL_snoc x _ hne]
        obtain ⟨T, hT⟩ : ∃ T, T = mkB (joinL (L.take k)) := ⟨_, rfl⟩
        rw [← hT]
        have hsz : T.size + 1 + (mkB x).size ≤ 5000 := by
          rw [hT, mkB_size, mkB_size]
          have := HS.out
          rw [this] at hle
          simp at hle
          omega
        have HT2 := Lib.hid hT
        have hki : (0 : Int) < (k : Int) := by omega
        clear hcells e1 etk hle hx hT hne
        go_wp2
        go_round
        case rel =>
          refine ⟨k + 1, by omega, by go_num, ?_⟩
          rw [HT2.out, HS.out]
          have e : joinL (L.take k) ++ 32 :: x = (joinL (L.take k) ++ [32]) ++ x := by simp
          rw [e]
          exact congrArg Value.string ((congrArg (· ++ mkB x) (str_app (joinL (L.take k)) [32])).trans (str_app _ x))
        case measure => simp [intOf]; omega
    · have hkN : k = N := by omega
      subst hkN
      have HE : Hid (L.take k = L) := by show _ = _; rw [List.take_of_length_le (by rw [HN.out]; exact Nat.le_refl _)]
      rw [HE.out]
      obtain ⟨T, hT⟩ : ∃ T, T = mkB (joinL L) := ⟨_, rfl⟩
      have hTs : T.size ≤ s.size := by rw [hT, mkB_size]; exact HJ.out
      rw [← hT] at C2 ⊢
      clear hT
      have H1 : Hid (Holds9 w2 (.slice a k cap) (L.map mkB)) := holds_own (xs := L.map mkB) (by rw [HM.out]; exact ho)
      have hTi : (T.size : Int) ≤ (s.size : Int) := by omega
      go_wp2_with (first
        | (go_at_call 24; refine (C2.out _).mono ?_; clear C2; rintro e w3 ⟨v3, rfl, ho3, hb3⟩; have hB3 := Bt hB hb3; have H3 := Lib.hid (holds_own (xs := L.map mkB) (by rw [HM.out]; exact ho3)); have H2 := Lib.hid (H1.out.on hb3); clear ho3 hb3)
        | (go_at_call 23; refine (same_eq _ _ _ (L.map mkB) (by rw [HM.out]; omega) H3.out H2.out).mono ?_; rintro e w4 ⟨rfl, hb4⟩; have hB4 := Bt hB3 hb4))
      go_ret
      exact ⟨rfl, by assumption⟩

set_option maxHeartbeats 1000000 in
theorem numJoins_out (s : ByteArray) (hs : 5000 < s.size) (w : World) (hL : Laid w) :
    Calls Tryd.prog 7 #[.string s] w fun e w' => e = .returned (.bool true) ∧ Below w.heap.size w w' := by
  have hsi : (5000 : Int) < (s.size : Int) := by omega
  go_enter Tryd.func7, Tryd.ntmps7
  go_wp2_with (go_at_call 9; refine (awake_any _ (by assumption)).mono ?_; rintro e w' ⟨rfl, hb⟩)
  go_ret
  exact ⟨rfl, by assumption⟩

theorem numJoins_walk (s0 : ByteArray) (_w0 : s0.size ≤ 140737488351232) (W : World) (hL : Laid W) :
    Calls Tryd.prog 7 #[.string s0] W fun e W' => e = .returned (.bool true) ∧ Below W.heap.size W W' := by
  by_cases h : s0.size ≤ 5000
  · exact numJoins_in s0 h W hL
  · exact numJoins_out s0 (by omega) W hL
end Go.Proofs.YtpoidlmemoocmaaDoor
