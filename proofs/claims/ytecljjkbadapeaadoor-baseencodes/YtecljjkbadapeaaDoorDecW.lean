/- What Decode of package base answers: the bytes of the text, in a row of the call's own, or none. Conditions: the text has at most 100000 bytes. -/
import Derived.Test.YtecljjkbadapeaaDoorSigns
namespace Go.Proofs.YtecljjkbadapeaaDoor
open Go.RowKit

theorem idx (c : UInt8) (W : World) : Calls Tryd.prog 15 #[.string ⟨#[65, 66, 67, 68, 69, 70, 71, 72, 73, 74, 75, 76, 77, 78, 79, 80, 81, 82, 83, 84, 85, 86, 87, 88, 89, 90, 97, 98, 99, 100, 101, 102, 103, 104, 105, 106, 107, 108, 109, 110, 111, 112, 113, 114, 115, 116, 117, 118, 119, 120, 121, 122, 48, 49, 50, 51, 52, 53, 54, 55, 56, 57, 43, 47]⟩, .int .u8 (c.toNat : Int)] W fun e w' => e = .returned (.int .i64 (ix c)) ∧ w' = W := by
  have h := Tryd.strings_IndexByte ⟨#[65, 66, 67, 68, 69, 70, 71, 72, 73, 74, 75, 76, 77, 78, 79, 80, 81, 82, 83, 84, 85, 86, 87, 88, 89, 90, 97, 98, 99, 100, 101, 102, 103, 104, 105, 106, 107, 108, 109, 110, 111, 112, 113, 114, 115, 116, 117, 118, 119, 120, 121, 122, 48, 49, 50, 51, 52, 53, 54, 55, 56, 57, 43, 47]⟩ (c.toNat : Int) W
  rw [show ((c.toNat : Int)).toNat.toUInt8 = c by simp] at h
  exact h
theorem snoc_row {w : World} {base n m : Nat} {v : Value} {o : List Int} {z z' : Int} (h : w.ownsRow base 5 1 v n (cs o ++ [Value.int .u8 z])) (hz : z = z') (hn : n = m) : w.ownsRow base 5 1 v m (cs (o ++ [z'])) := by
  rw [← hz, ← hn, cs_app]
  exact h
theorem snoc_len (o : List Int) (z : Int) : (o ++ [z]).length = o.length + 1 := by rw [List.length_append]; rfl

def DecEnd (l : List UInt8) (w w' : World) (e : Ending) : Prop :=
  Below w.heap.size w w' ∧ ((decB l = none ∧ e = .returned (.tuple #[.slice none 0 0, .int .i64 2])) ∨ ∃ o v, decB l = some o ∧ e = .returned (.tuple #[v, .int .i64 0]) ∧ w'.ownsRow w.heap.size 5 1 v o.length (cs o))

set_option maxHeartbeats 4000000 in
theorem decode_any (s : ByteArray) (hs : s.size ≤ 100000) (w : World) : Calls Tryd.prog 10 #[.string s] w fun e w' => DecEnd s.data.toList w w' e := by
  obtain ⟨i0, hi, hz0, hz1, hz2⟩ := info_parts info_u8
  obtain ⟨B, hB⟩ : ∃ B : ByteArray, B = ⟨(Lib.trimRightB s.data.toList 61).toArray⟩ := ⟨_, rfl⟩
  have hT : Calls Tryd.prog 14 #[.string s, .string ⟨#[61]⟩] w fun e w' => e = .returned (.string B) ∧ w = w' := by
    rw [hB]
    exact (Tryd.strings_TrimRight_one s 61 (by decide) w (by omega)).mono fun e w' ⟨h1, h2⟩ => ⟨h1, h2.symm⟩
  have hBl : B.data.toList = Lib.trimRightB s.data.toList 61 := by rw [hB]
  have hsl : s.data.toList.length = s.size := rfl
  have hBs : B.data.toList.length = B.size := rfl
  have hle : B.size ≤ s.size := by
    have := congrArg List.length (trim_parts s.data.toList)
    rw [List.length_append, ← hBl, hBs, hsl] at this
    omega
  have HT := hide hT
  clear hT hB
  by_cases hc : s.size % 4 ≠ 0 ∨ 2 < s.size - B.size
  · have HD : Hid (decB s.data.toList = none) := by
      show _ = _
      unfold decB
      rw [← hBl, hBs, hsl, if_pos hc]
    clear hBl hsl hBs
    by_cases h4 : s.size % 4 = 0
    · have i4 : (s.size : Int) % 4 = 0 := by omega
      have i2 : (2 : Int) < (s.size : Int) - (B.size : Int) := by omega
      go_enter Tryd.func10, Tryd.ntmps10
      go_wp2_with (go_at_call 14; refine HT.out.mono ?_; rintro e w' ⟨rfl, rfl⟩)
      go_ret2
      exact ⟨Below.refl _ _, .inl ⟨HD.out, rfl⟩⟩
    · have i4 : ¬ (s.size : Int) % 4 = 0 := by omega
      go_enter Tryd.func10, Tryd.ntmps10
      go_wp2_with (go_at_call 14; refine HT.out.mono ?_; rintro e w' ⟨rfl, rfl⟩)
      go_ret2
      exact ⟨Below.refl _ _, .inl ⟨HD.out, rfl⟩⟩
  · have i4 : (s.size : Int) % 4 = 0 := by omega
    have i2 : (s.size : Int) - (B.size : Int) ≤ 2 := by omega
    have HD : Hid (decB s.data.toList = decFin (decRun B.data.toList [] 0 0)) := by
      show _ = _
      unfold decB
      rw [← hBl, hBs, hsl, if_neg hc]
    have HB := hide hBs
    clear hBl hsl hBs
    go_enter Tryd.func10, Tryd.ntmps10
    go_wp2_with (first
      | (go_at_call 14; refine HT.out.mono ?_; rintro e w' ⟨rfl, rfl⟩)
      | (at_make; refine wpList_make_own _ rfl _ _ 22 rfl w.heap.size 5 i0 (.int .u8 0) 1 Tryd.underlying22 hi hz0 hz1 _ _ _ (s.size / 4 * 3) rfl rfl (by omega) (by rw [hz2]; omega) (by unfold maxLen; omega) (Nat.le_refl _) ?_; intro w1 hown hgrow))
    have hb1 : Below w.heap.size w w1 := (Below.refl _ _).grown hgrow (Nat.le_refl _) (fun k h => by cases h)
    go_loopw [5, 6, 7, 31] (fun u vb vt i wr => ∃ (k t : Nat) (o : List Int) (b : Int), k ≤ B.size ∧ i = .int .i64 k ∧ vb = .int .i64 b ∧ vt = .int .i64 t ∧ ((t = 0 ∧ b = 0) ∨ (t = 2 ∧ 0 ≤ b ∧ b < 4) ∨ (t = 4 ∧ 0 ≤ b ∧ b < 16) ∨ (t = 6 ∧ 0 ≤ b ∧ b < 64)) ∧
        wr.ownsRow w.heap.size 5 1 u o.length (cs o) ∧ Below w.heap.size w wr ∧ o.length ≤ k ∧ decRun (B.data.toList.drop k) o b t = decRun B.data.toList [] 0 0)
      (fun _ _ _ i _ => B.size - (intOf i).toNat)
    case atStart => exact ⟨0, 0, [], 0, Nat.zero_le _, rfl, rfl, rfl, .inl ⟨rfl, rfl⟩, hown, hb1, Nat.le_refl _, rfl⟩
    case round =>
      obtain ⟨k, t, o, b, hk, rfl, rfl, rfl, htb, ho, hb, hok, hR⟩ := hrel
      clear hown hgrow hb1
      have hsz := hb.size
      have HO := hide ho
      have HR := hide hR
      clear ho hR
      by_cases hlt : k < B.size
      · have HC : Hid (B.data.toList.drop k = B[k] :: B.data.toList.drop (k + 1)) := by
          show _ = _
          rw [List.drop_eq_getElem_cons (by rw [HB.out]; exact hlt)]
          rfl
        rcases ix_cases B[k] with hx | ⟨hx0, hx1, -⟩
        · have HI := hide (fun W => idx B[k] W)
          rw [hx] at HI
          have HN := hide (decNo _ _ _ _ _ (by omega) : decRun (B[k] :: B.data.toList.drop (k + 1)) o b t = none)
          clear hx
          go_wp2_with (go_at_call 15; refine (HI.out _).mono ?_; rintro e w' ⟨rfl, rfl⟩)
          go_ret2
          exact ⟨hb, .inl ⟨by rw [HD.out, ← HR.out, HC.out, HN.out]; rfl, rfl⟩⟩
        · obtain ⟨x, hx⟩ : ∃ x, x = ix B[k] := ⟨_, rfl⟩
          have HI := hide (fun W => idx B[k] W)
          rw [← hx] at HI hx0 hx1
          have HX := hide hx
          clear hx
          rcases htb with ⟨rfl, rfl⟩ | ⟨rfl, hb0, hb1⟩ | ⟨rfl, hb0, hb1⟩ | ⟨rfl, hb0, hb1⟩
          · have hor : bits .or .i64 0 x = x := by have := i64_or_int 6 64 (by decide) 0 x (by omega) (by omega) (by omega) (by omega) (by omega); omega
            go_wp2_with (go_at_call 15; refine (HI.out _).mono ?_; rintro e w' ⟨rfl, rfl⟩)
            go_roundw
            case rel => exact ⟨k + 1, 6, o, x, by omega, by go_num, rfl, rfl, .inr (.inr (.inr ⟨rfl, hx0, hx1⟩)), HO.out, hb, by omega, by rw [← HR.out, HC.out, dec1 _ _ _ (by rw [← HX.out]; exact hx0), ← HX.out]⟩
            case measure => first | (simp [intOf]; done) | (simp [intOf]; omega)
          · obtain ⟨N, hN⟩ : ∃ N, N = b * 64 + x := ⟨_, rfl⟩
            have hor : bits .or .i64 (b * 64) x = N := by rw [hN]; exact i64_or_int 6 64 (by decide) _ x (by omega) (by omega) (by omega) (by omega) (by omega)
            have hN0 : 0 ≤ N := by omega
            have hN1 : N < 256 := by omega
            have hand : bits .and .i64 N 0 = 0 := by have := i64_and 0 1 (by decide) (by decide) N (by omega) (by omega); simpa using this
            have HN := hide hN
            clear hN
            go_wp2_with (first
              | (go_at_call 15; refine (HI.out _).mono ?_; rintro e w' ⟨rfl, hw⟩; subst hw)
              | (at_builtin; refine wpList_append_own _ rfl _ _ 22 rfl w.heap.size 5 i0 (.int .u8 0) 1 1 Tryd.underlying22 hi hz0 hz1 hz2 rfl (by decide) _ _ _ rfl (HO.out.alloc _) ⟨_, 0, none⟩ 1 1 [_] rfl rfl (cell_one_new _ _ _) (by simp [Value.oneCell']) (by unfold maxLen; omega) (by omega) (by simp; omega) ?_; intro v' w1 hown' hgrow _))
            have hgb := grown_below (HO.out.alloc _) hgrow (by simp; omega)
            go_roundw
            case rel => exact ⟨k + 1, 0, o ++ [(b * 64 + x) % 256], 0, by omega, by go_num, rfl, rfl, .inl ⟨rfl, rfl⟩, snoc_row hown' (by rw [← HN.out]; omega) (by rw [snoc_len]), (hb.alloc hsz _).trans hgb, by rw [snoc_len]; omega, by rw [← HR.out, HC.out, dec4 _ _ _ _ (by rw [← HX.out]; exact hx0), ← HX.out]⟩
            case measure => first | (simp [intOf]; done) | (simp [intOf]; omega)
          · obtain ⟨N, hN⟩ : ∃ N, N = b * 64 + x := ⟨_, rfl⟩
            have hor : bits .or .i64 (b * 64) x = N := by rw [hN]; exact i64_or_int 6 64 (by decide) _ x (by omega) (by omega) (by omega) (by omega) (by omega)
            have hN0 : 0 ≤ N := by omega
            have hN1 : N < 1024 := by omega
            have hand : bits .and .i64 N 3 = N % 4 := by have := i64_and 2 4 (by decide) (by decide) N (by omega) (by omega); exact this
            have HN := hide hN
            clear hN
            go_wp2_with (first
              | (go_at_call 15; refine (HI.out _).mono ?_; rintro e w' ⟨rfl, hw⟩; subst hw)
              | (at_builtin; refine wpList_append_own _ rfl _ _ 22 rfl w.heap.size 5 i0 (.int .u8 0) 1 1 Tryd.underlying22 hi hz0 hz1 hz2 rfl (by decide) _ _ _ rfl (HO.out.alloc _) ⟨_, 0, none⟩ 1 1 [_] rfl rfl (cell_one_new _ _ _) (by simp [Value.oneCell']) (by unfold maxLen; omega) (by omega) (by simp; omega) ?_; intro v' w1 hown' hgrow _))
            have hgb := grown_below (HO.out.alloc _) hgrow (by simp; omega)
            go_roundw
            case rel => exact ⟨k + 1, 2, o ++ [(b * 64 + x) / 4 % 256], (b * 64 + x) % 4, by omega, by go_num, by rw [← HN.out], rfl, .inr (.inl ⟨rfl, by omega, by omega⟩), snoc_row hown' (by rw [← HN.out]; omega) (by rw [snoc_len]), (hb.alloc hsz _).trans hgb, by rw [snoc_len]; omega, by rw [← HR.out, HC.out, dec3 _ _ _ _ (by rw [← HX.out]; exact hx0), ← HX.out]⟩
            case measure => first | (simp [intOf]; done) | (simp [intOf]; omega)
          · obtain ⟨N, hN⟩ : ∃ N, N = b * 64 + x := ⟨_, rfl⟩
            have hor : bits .or .i64 (b * 64) x = N := by rw [hN]; exact i64_or_int 6 64 (by decide) _ x (by omega) (by omega) (by omega) (by omega) (by omega)
            have hN0 : 0 ≤ N := by omega
            have hN1 : N < 4096 := by omega
            have hand : bits .and .i64 N 15 = N % 16 := by have := i64_and 4 16 (by decide) (by decide) N (by omega) (by omega); exact this
            have HN := hide hN
            clear hN
            go_wp2_with (first
              | (go_at_call 15; refine (HI.out _).mono ?_; rintro e w' ⟨rfl, hw⟩; subst hw)
              | (at_builtin; refine wpList_append_own _ rfl _ _ 22 rfl w.heap.size 5 i0 (.int .u8 0) 1 1 Tryd.underlying22 hi hz0 hz1 hz2 rfl (by decide) _ _ _ rfl (HO.out.alloc _) ⟨_, 0, none⟩ 1 1 [_] rfl rfl (cell_one_new _ _ _) (by simp [Value.oneCell']) (by unfold maxLen; omega) (by omega) (by simp; omega) ?_; intro v' w1 hown' hgrow _))
            have hgb := grown_below (HO.out.alloc _) hgrow (by simp; omega)
            go_roundw
            case rel => exact ⟨k + 1, 4, o ++ [(b * 64 + x) / 16 % 256], (b * 64 + x) % 16, by omega, by go_num, by rw [← HN.out], rfl, .inr (.inr (.inl ⟨rfl, by omega, by omega⟩)), snoc_row hown' (by rw [← HN.out]; omega) (by rw [snoc_len]), (hb.alloc hsz _).trans hgb, by rw [snoc_len]; omega, by rw [← HR.out, HC.out, dec2 _ _ _ _ (by rw [← HX.out]; exact hx0), ← HX.out]⟩
            case measure => first | (simp [intOf]; done) | (simp [intOf]; omega)
      · have hkB : k = B.size := by omega
        have HE : Hid (decRun B.data.toList [] 0 0 = some (o, b)) := by
          show _ = _
          rw [← HR.out, List.drop_of_length_le (by rw [HB.out]; omega)]
          rfl
        by_cases hb0 : b = 0
        · subst hb0
          go_wp2
          go_ret2
          exact ⟨hb, .inr ⟨o, _, by rw [HD.out, HE.out]; rfl, rfl, HO.out⟩⟩
        · have hbb : (b != 0) = true := by simpa using hb0
          go_wp2
          go_ret2
          exact ⟨hb, .inl ⟨by rw [HD.out, HE.out]; simp [decFin, hb0], rfl⟩⟩
end Go.Proofs.YtecljjkbadapeaaDoor
