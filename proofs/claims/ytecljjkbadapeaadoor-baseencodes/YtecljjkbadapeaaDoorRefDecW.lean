/- The document's own Decode (butteryref02), walked. Conditions: the text has at most 100000 bytes. -/
import Derived.Test.YtecljjkbadapeaaDoorRefDec
import Derived.Test.YtecljjkbadapeaaDoorAwakeB
namespace Go.Proofs.YtecljjkbadapeaaDoor
open Go.RowKit

set_option maxHeartbeats 1000000 in
theorem value_any (c : UInt8) (w : World) : Calls Tryd.prog 16 #[.int .u8 (c.toNat : Int)] w fun e w' => e = .returned (.int .i64 (ix c)) ∧ w' = w := by
  have hcb := c.toNat_lt
  obtain ⟨x, hx⟩ : ∃ x : Int, x = (c.toNat : Int) := ⟨_, rfl⟩
  have hx0 : 0 ≤ x := by omega
  have hx1 : x ≤ 255 := by omega
  rw [← hx]
  have HX := hide hx
  clear hx hcb
  go_enter Tryd.func16, Tryd.ntmps16
  go_wp2
  go_loop [3] (fun i => ∃ k : Nat, k ≤ 64 ∧ i = .int .i64 k ∧ Hid (∀ m : Nat, m < k → sg m ≠ c)) (fun i => 64 - (intOf i).toNat)
  case atStart => exact ⟨0, by omega, rfl, fun m hm => by omega⟩
  case round =>
    obtain ⟨k, hk, rfl, HK⟩ := hrel
    by_cases hlt : k < 64
    · have hki : (k : Int) < 64 := by omega
      have hk0 : (0 : Int) ≤ (k : Int) := by omega
      by_cases he : sg k = c
      · have HS := hide (sign_int k hk0 hki)
        rw [he, ← HX.out] at HS
        have HI : Hid (ix c = (k : Int)) := by show _ = _; rw [← he]; exact ix_sg k hk0 hki
        clear he
        go_wp2_with (go_at_call 18; refine (HS.out _).mono ?_; rintro e w' ⟨rfl, rfl⟩)
        go_ret
        exact ⟨by rw [HI.out]; rfl, rfl⟩
      · obtain ⟨y, hy⟩ : ∃ y : Int, y = ((sg k).toNat : Int) := ⟨_, rfl⟩
        have HS := hide (sign_int k hk0 hki)
        rw [← hy] at HS
        have hne : (y == x) = false := by
          have h1 : ¬ y = x := fun e => he (by
            have := HX.out
            apply UInt8.toNat_inj.1
            omega)
          simpa using h1
        have HE := hide he
        clear he hy
        go_wp2_with (go_at_call 18; refine (HS.out _).mono ?_; rintro e w' ⟨rfl, rfl⟩)
        go_round
        case rel => exact ⟨k + 1, by omega, by go_num, fun m hm => by
          rcases Nat.lt_or_ge m k with h' | h'
          · exact HK.out m h'
          · have : m = k := by omega
            subst this
            exact HE.out⟩
        case measure => first | (simp [intOf]; done) | (simp [intOf]; omega)
    · have HI : Hid (ix c = -1) := by
        show _ = _
        rcases ix_cases c with h' | ⟨h0, h1, h2⟩
        · exact h'
        · have := HK.out (ix c).toNat (by omega)
          rw [Int.toNat_of_nonneg h0] at this
          exact absurd h2 this
      have hk64 : k = 64 := by omega
      subst hk64
      go_wp2
      go_ret
      exact ⟨by rw [HI.out]; rfl, rfl⟩

theorem nn_snoc (l : List UInt8) (c : UInt8) : nn (l ++ [c]) = nn l * 64 + vz c := by simp [nn]
theorem kk_snoc (l : List UInt8) (c : UInt8) : kk (l ++ [c]) = kk l + (if 0 ≤ ix c then 1 else 0) := by simp [kk, List.countP_append, List.countP_cons]
theorem vz_bd (c : UInt8) : 0 ≤ vz c ∧ vz c < 64 := by
  unfold vz
  rcases ix_cases c with h | ⟨h0, h1, _⟩
  · rw [if_pos (by omega)]; omega
  · rw [if_neg (by omega)]; omega
theorem nn_bd (l : List UInt8) : 0 ≤ nn l ∧ nn l < 64 ^ l.length := by
  have key : ∀ (l : List UInt8) (a : Int) (n : Nat), 0 ≤ a → a < 64 ^ n → 0 ≤ l.foldl (fun a c => a * 64 + vz c) a ∧ l.foldl (fun a c => a * 64 + vz c) a < 64 ^ (n + l.length) := by
    intro l
    induction l with
    | nil => intro a n h0 h1; exact ⟨h0, h1⟩
    | cons c l ih =>
      intro a n h0 h1
      have hv := vz_bd c
      have e : n + (c :: l).length = (n + 1) + l.length := by rw [List.length_cons]; omega
      rw [List.foldl_cons, e]
      refine ih _ (n + 1) (by omega) ?_
      rw [Int.pow_succ]
      have hle : (a + 1) * 64 ≤ 64 ^ n * 64 := Int.mul_le_mul_of_nonneg_right (by omega) (by omega)
      omega
  have := key l 0 0 (by omega) (by decide)
  rw [Nat.zero_add] at this
  exact this
theorem kk_le (l : List UInt8) : kk l ≤ l.length := List.countP_le_length
theorem nn_three (l : List UInt8) (h : l.length ≤ 3) : nn l < 262144 := by
  have hb := (nn_bd l).2
  have e0 : (64 : Int) ^ 0 = 1 := by decide
  have e1 : (64 : Int) ^ 1 = 64 := by decide
  have e2 : (64 : Int) ^ 2 = 4096 := by decide
  have e3 : (64 : Int) ^ 3 = 262144 := by decide
  obtain h' | h' | h' | h' : l.length = 0 ∨ l.length = 1 ∨ l.length = 2 ∨ l.length = 3 := by omega
  all_goals rw [h'] at hb; omega
theorem nn_four (l : List UInt8) (h : l.length = 4) : nn l < 16777216 := by
  have hb := (nn_bd l).2
  have e4 : (64 : Int) ^ 4 = 16777216 := by decide
  rw [h] at hb
  omega
theorem owns_on {w w' : World} {base e size n : Nat} {v : Value} {xs : List Value} (ho : w.ownsRow base e size v n xs) (hb : Below w.heap.size w w') : w'.ownsRow base e size v n xs := by
  refine ⟨ho.1, ?_⟩
  rcases ho.2 with h | ⟨g', cap', cur, hv, hg, hh, hr⟩
  · exact .inl h
  · refine .inr ⟨g', cap', cur, hv, hg, ?_, hr⟩
    rw [hb.block g' (lt_of_block hh)]
    exact hh
theorem cell_three_new (w : World) (a b c : Value) (t : TypeId) (k : Nat) : ∀ j u, ([a, b, c].take k)[j]? = some u → (w.alloc (.cells #[a, b, c] t)).cell? ((⟨w.heap.size, 0, none⟩ : Addr).add j) = some u := by
  intro j u hj
  have hh : (w.alloc (.cells #[a, b, c] t)).heap[w.heap.size]? = some (.cells #[a, b, c] t) := by
    show (w.heap.push _)[w.heap.size]? = _
    simp
  rw [add_at, Nat.zero_add]
  unfold World.cell?
  rw [hh]
  show (#[a, b, c] : Array Value)[j]? = some u
  have hjk : j < k := by
    rcases Nat.lt_or_ge j k with h | h
    · exact h
    · rw [List.getElem?_eq_none (by rw [List.length_take]; omega)] at hj; cases hj
  rw [← hj, List.getElem?_take_of_lt hjk]
  simp
theorem row_part {w : World} {base n : Nat} {v : Value} {o : List Int} {zs : List Int} {q : List UInt8} (h : w.ownsRow base 5 1 v n (cs o ++ cs zs)) (hz : zs = part q) (hn : n = o.length + (part q).length) : w.ownsRow base 5 1 v (o ++ part q).length (cs (o ++ part q)) := by
  rw [List.length_append, ← hn, cs_app, ← hz]
  exact h
theorem refD_step (l : List UInt8) (p : Nat) (o : List Int) (h : p + 4 ≤ l.length) : refD (l.drop p) o = if kk ((l.drop p).take 4) < 2 then none else refD (l.drop (p + 4)) (o ++ part ((l.drop p).take 4)) := by
  rw [List.drop_eq_getElem_cons (show p < l.length by omega), List.drop_eq_getElem_cons (show p + 1 < l.length by omega), List.drop_eq_getElem_cons (show p + 1 + 1 < l.length by omega), List.drop_eq_getElem_cons (show p + 1 + 1 + 1 < l.length by omega), refD]
  rfl

set_option maxHeartbeats 8000000 in
theorem refDecode_go (s : ByteArray) (hs : s.size ≤ 100000) (w : World) (h4 : s.size % 4 = 0) : Calls Tryd.prog 11 #[.string s] w fun e w' => DecEnd s.data.toList w w' e := by
  obtain ⟨i0, hi, hz0, hz1, hz2⟩ := info_parts info_u8
  have i4 : (s.size : Int) % 4 = 0 := by omega
  have HLn : Hid (s.data.toList.length = s.size) := hide rfl
  have HD : Hid (decB s.data.toList = refFin s.data.toList (refD s.data.toList [])) := by
    show _ = _
    rw [← ref_is]
    unfold refB
    rw [HLn.out, if_neg (by omega)]
  go_enter Tryd.func11, Tryd.ntmps11
  go_wp2
  clear i4
  go_loopw [4, 5] (fun u i wr => ∃ (p : Nat) (o : List Int), p % 4 = 0 ∧ p ≤ s.size ∧ i = .int .i64 p ∧ wr.ownsRow w.heap.size 5 1 u o.length (cs o) ∧ Below w.heap.size w wr ∧ o.length ≤ p ∧ Hid (Byt o) ∧ Hid (refD (s.data.toList.drop p) o = refD s.data.toList []))
    (fun _ i _ => s.size - (intOf i).toNat)
  case atStart => exact ⟨0, [], rfl, Nat.zero_le _, rfl, World.ownsRow_nil _ _ _ _, Below.refl _ _, Nat.le_refl _, (fun z hz => by cases hz), hide rfl⟩
  case round =>
    obtain ⟨p, o, hp4, hpl, rfl, ho, hb, hol, HBy, HR⟩ := hrel
    have hsz := hb.size
    have HO := hide ho
    clear ho
    by_cases hlt : p < s.size
    · have hp44 : p + 4 ≤ s.size := by omega
      obtain ⟨Q, hQ⟩ : ∃ Q, Q = (s.data.toList.drop p).take 4 := ⟨_, rfl⟩
      have hQl : Q.length = 4 := by rw [hQ, List.length_take, List.length_drop, HLn.out]; omega
      have HQ : Hid (∀ m (hm : m < 4), ∃ h : p + m < s.size, Q.take (m + 1) = Q.take m ++ [s[p + m]]) := by
        intro m hm
        refine ⟨by omega, ?_⟩
        rw [List.take_succ_eq_append_getElem (by omega)]
        congr 2
        subst hQ
        rw [List.getElem_take, List.getElem_drop]
        rfl
      have HS := hide (refD_step s.data.toList p o (by rw [HLn.out]; exact hp44))
      rw [← hQ, HR.out] at HS
      have HQl := hide hQl
      clear hQ hQl
      go_wp2
      go_loop [6, 7, 8] (fun n k j => ∃ m : Nat, m ≤ 4 ∧ j = .int .i64 m ∧ n = .int .i64 (nn (Q.take m)) ∧ k = .int .i64 (kk (Q.take m))) (fun _ _ j => 4 - (intOf j).toNat)
      case atStart => exact ⟨0, by omega, rfl, rfl, rfl⟩
      case round =>
        obtain ⟨m, hm, rfl, rfl, rfl⟩ := hrel
        by_cases hmt : m < 4
        · obtain ⟨hq, hstep⟩ := HQ.out m hmt
          obtain ⟨q, hqe⟩ : ∃ q, q = p + m := ⟨_, rfl⟩
          have hqi : (p : Int) + (m : Int) = (q : Int) := by omega
          have hqs : q < s.size := by omega
          have hN0 := (nn_bd (Q.take m)).1
          have hN1 := nn_three (Q.take m) (by rw [List.length_take]; omega)
          have hK := kk_le (Q.take m)
          rw [List.length_take] at hK
          have hc : s[p + m] = s[q] := by subst hqe; rfl
          rw [hc] at hstep
          have e1 := nn_snoc (Q.take m) s[q]
          have e2 := kk_snoc (Q.take m) s[q]
          rw [← hstep] at e1 e2
          obtain ⟨N, hN⟩ : ∃ N, N = nn (Q.take m) := ⟨_, rfl⟩
          obtain ⟨K, hKe⟩ : ∃ K, K = kk (Q.take m) := ⟨_, rfl⟩
          rw [← hN] at hN0 hN1 e1
          rw [← hKe] at hK e2
          rw [← hN, ← hKe]
          have hK4 : K ≤ 4 := by omega
          have HI := hide (fun W => (value_any s[q] W).mono fun e w' (h : _ ∧ w' = W) => (⟨h.1, h.2.symm⟩ : _ ∧ W = w'))
          have HV : Hid (vz s[q] = if ix s[q] < 0 then 0 else ix s[q]) := hide rfl
          obtain ⟨x, hx⟩ : ∃ x, x = ix s[q] := ⟨_, rfl⟩
          have hxc := ix_cases s[q]
          rw [← hx] at HI HV e2 hxc
          have E1 := hide e1
          have E2 := hide e2
          clear e1 e2 hN hKe hx hstep hc hqe hK
          rcases hxc with hx1 | ⟨hx0, hx1, -⟩
          · subst hx1
            go_wp2_with (go_at_call 16; refine (HI.out _).mono ?_; rintro e w' ⟨rfl, rfl⟩)
            go_round
            case rel => exact ⟨m + 1, by omega, by go_num, by rw [E1.out, HV.out]; simp, by rw [E2.out]; simp⟩
            case measure => first | (simp [intOf]; done) | (simp [intOf]; omega)
          · go_wp2_with (go_at_call 16; refine (HI.out _).mono ?_; rintro e w' ⟨rfl, rfl⟩)
            go_round
            case rel => exact ⟨m + 1, by omega, by go_num, by rw [E1.out, HV.out, if_neg (by omega)], by rw [E2.out, if_pos (by omega)]; go_num⟩
            case measure => first | (simp [intOf]; done) | (simp [intOf]; omega)
        · have hm4 : m = 4 := by omega
          subst hm4
          have hT : Q.take 4 = Q := List.take_of_length_le (by rw [HQl.out]; omega)
          rw [hT]
          obtain ⟨N, hN⟩ : ∃ N, N = nn Q := ⟨_, rfl⟩
          obtain ⟨K, hKe⟩ : ∃ K, K = kk Q := ⟨_, rfl⟩
          have hN0 := (nn_bd Q).1
          have hN1 := nn_four Q HQl.out
          have hK4 := kk_le Q
          rw [HQl.out, ← hKe] at hK4
          rw [← hN] at hN0 hN1
          have HP : Hid (part Q = [N / 65536, N / 256 % 256, N % 256].take (K - 1)) := by
            have e : N / 65536 = N / 65536 % 256 := by omega
            show _ = _
            rw [e, hN, hKe]
            rfl
          have HPB := hide (part_byt Q)
          rw [← hKe] at HS
          rw [← hN, ← hKe]
          clear hN hKe hT
          by_cases hK2 : K < 2
          · have hki : (K : Int) < 2 := by omega
            rw [if_pos hK2] at HS
            go_wp2
            go_ret2
            exact ⟨hb, .inl ⟨by rw [HD.out, HS.out]; rfl, rfl⟩⟩
          · rw [if_neg hK2] at HS
            obtain rfl | rfl | rfl : K = 2 ∨ K = 3 ∨ K = 4 := by omega
            · go_wp2_with (at_builtin; refine wpList_append_own _ rfl _ _ 22 rfl w.heap.size 5 i0 (.int .u8 0) 1 1 Tryd.underlying22 hi hz0 hz1 hz2 rfl (by decide) _ _ _ rfl (HO.out.alloc _) ⟨wr.heap.size, 0, none⟩ 1 3 [_] rfl rfl (cell_three_new _ _ _ _ _ 1) (by simp [Value.oneCell']) (by unfold maxLen; omega) (by omega) (by simp; omega) ?_; intro v' w1 hown' hgrow _)
              have hgb := grown_below (HO.out.alloc _) hgrow (by simp; omega)
              go_roundw
              case rel => first | exact ⟨p + 4, o ++ part Q, by omega, by omega, by go_num, row_part (zs := [N / 65536]) (by simpa [cs] using hown') HP.out.symm (by rw [HP.out]; rfl), (hb.alloc hsz _).trans hgb, by rw [List.length_append, HP.out]; simp; omega, hide (byt_app HBy.out HPB.out), hide HS.out.symm⟩ | exact ⟨_, _, _, Value.int .i64 ((p + 4 : Nat) : Int), ⟨p + 4, by omega, by omega, rfl, o ++ part Q, row_part (zs := [N / 65536]) (by simpa [cs] using hown') HP.out.symm (by rw [HP.out]; rfl), (hb.alloc hsz _).trans hgb, by rw [List.length_append, HP.out]; simp; omega, hide (byt_app HBy.out HPB.out), hide HS.out.symm⟩, rfl, rfl, rfl, by go_num⟩
              case measure => first | (simp [intOf]; done) | (simp [intOf]; omega)
            · go_wp2_with (at_builtin; refine wpList_append_own _ rfl _ _ 22 rfl w.heap.size 5 i0 (.int .u8 0) 1 1 Tryd.underlying22 hi hz0 hz1 hz2 rfl (by decide) _ _ _ rfl (HO.out.alloc _) ⟨wr.heap.size, 0, none⟩ 2 3 [_, _] rfl rfl (cell_three_new _ _ _ _ _ 2) (by simp [Value.oneCell']) (by unfold maxLen; omega) (by omega) (by simp; omega) ?_; intro v' w1 hown' hgrow _)
              have hgb := grown_below (HO.out.alloc _) hgrow (by simp; omega)
              go_roundw
              case rel => first | exact ⟨p + 4, o ++ part Q, by omega, by omega, by go_num, row_part (zs := [N / 65536, N / 256 % 256]) (by simpa [cs] using hown') HP.out.symm (by rw [HP.out]; rfl), (hb.alloc hsz _).trans hgb, by rw [List.length_append, HP.out]; simp; omega, hide (byt_app HBy.out HPB.out), hide HS.out.symm⟩ | exact ⟨_, _, _, Value.int .i64 ((p + 4 : Nat) : Int), ⟨p + 4, by omega, by omega, rfl, o ++ part Q, row_part (zs := [N / 65536, N / 256 % 256]) (by simpa [cs] using hown') HP.out.symm (by rw [HP.out]; rfl), (hb.alloc hsz _).trans hgb, by rw [List.length_append, HP.out]; simp; omega, hide (byt_app HBy.out HPB.out), hide HS.out.symm⟩, rfl, rfl, rfl, by go_num⟩
              case measure => first | (simp [intOf]; done) | (simp [intOf]; omega)
            · go_wp2_with (at_builtin; refine wpList_append_own _ rfl _ _ 22 rfl w.heap.size 5 i0 (.int .u8 0) 1 1 Tryd.underlying22 hi hz0 hz1 hz2 rfl (by decide) _ _ _ rfl (HO.out.alloc _) ⟨wr.heap.size, 0, none⟩ 3 3 [_, _, _] rfl rfl (cell_three_new _ _ _ _ _ 3) (by simp [Value.oneCell']) (by unfold maxLen; omega) (by omega) (by simp; omega) ?_; intro v' w1 hown' hgrow _)
              have hgb := grown_below (HO.out.alloc _) hgrow (by simp; omega)
              go_roundw
              case rel => first | exact ⟨p + 4, o ++ part Q, by omega, by omega, by go_num, row_part (zs := [N / 65536, N / 256 % 256, N % 256]) (by simpa [cs] using hown') HP.out.symm (by rw [HP.out]; rfl), (hb.alloc hsz _).trans hgb, by rw [List.length_append, HP.out]; simp; omega, hide (byt_app HBy.out HPB.out), hide HS.out.symm⟩ | exact ⟨_, _, _, Value.int .i64 ((p + 4 : Nat) : Int), ⟨p + 4, by omega, by omega, rfl, o ++ part Q, row_part (zs := [N / 65536, N / 256 % 256, N % 256]) (by simpa [cs] using hown') HP.out.symm (by rw [HP.out]; rfl), (hb.alloc hsz _).trans hgb, by rw [List.length_append, HP.out]; simp; omega, hide (byt_app HBy.out HPB.out), hide HS.out.symm⟩, rfl, rfl, rfl, by go_num⟩
              case measure => first | (simp [intOf]; done) | (simp [intOf]; omega)
    · have hps : p = s.size := by omega
      have HE : Hid (refD s.data.toList [] = some o) := by
        show _ = _
        rw [← HR.out, List.drop_of_length_le (by rw [HLn.out]; omega)]
        rfl
      obtain ⟨a4, c4, rfl, hbs⟩ := own_bs HO.out HBy.out
      obtain ⟨E, hE⟩ : ∃ E : ByteArray, E = ⟨(encB o).toArray⟩ := ⟨_, rfl⟩
      have HC := hide (refEncode_any hbs (by omega))
      rw [← hE] at HC
      by_cases hEs : E = s
      · have HF : Hid (encB o = s.data.toList) := by show _ = _; rw [← hEs, hE]
        subst hEs
        clear hE hbs
        go_wp2_with (go_at_call 13; refine HC.out.mono ?_; rintro e w2 ⟨rfl, h2⟩)
        go_ret2
        exact ⟨hb.trans (h2.mono hsz), .inr ⟨o, _, by rw [HD.out, HE.out, refFin, if_pos HF.out], rfl, owns_on HO.out h2⟩⟩
      · have HF : Hid (¬ encB o = s.data.toList) := fun e => hEs (by
          rw [hE]
          apply ByteArray.ext
          exact Array.ext' e)
        have hne : (E.toList == s.toList) = false := by
          rw [ByteArray.toList_eq, ByteArray.toList_eq, beq_eq_false_iff_ne]
          intro e
          exact hEs (by apply ByteArray.ext; exact Array.ext' e)
        clear hE hbs hEs
        go_wp2_with (go_at_call 13; refine HC.out.mono ?_; rintro e w2 ⟨rfl, h2⟩)
        go_ret2
        exact ⟨hb.trans (h2.mono hsz), .inl ⟨by rw [HD.out, HE.out, refFin, if_neg HF.out], rfl⟩⟩

set_option maxHeartbeats 2000000 in
theorem refDecode_any (s : ByteArray) (hs : s.size ≤ 100000) (w : World) : Calls Tryd.prog 11 #[.string s] w fun e w' => DecEnd s.data.toList w w' e := by
  by_cases h4 : s.size % 4 = 0
  · exact refDecode_go s hs w h4
  · have i4 : ¬ (s.size : Int) % 4 = 0 := by omega
    have HD : Hid (decB s.data.toList = none) := by
      show _ = _
      rw [← ref_is]
      unfold refB
      rw [show s.data.toList.length = s.size from rfl, if_pos h4]
    go_enter Tryd.func11, Tryd.ntmps11
    go_wp2
    go_ret2
    exact ⟨Below.refl _ _, .inl ⟨HD.out, rfl⟩⟩
end Go.Proofs.YtecljjkbadapeaaDoor
