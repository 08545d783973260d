/- TextinBlanks returns true for every text and every number, and writes nothing that was there. Conditions: the listed variables hold what the program's text lays. -/
import Derived.Test.YthofdmepofepgaaDoorTextBlM
import Derived.Test.YthofdmepofepgaaDoorTextinEndsWalk
namespace Go.Proofs.YthofdmepofepgaaDoor
set_option linter.unusedVariables false
open Go.RowKit

/-- Blanks, as a text. -/
def BlInv (m : Nat) (v i : Value) : Prop := ∃ (k : Nat) (T : ByteArray), k ≤ m ∧ i = .int .i64 k ∧ v = .string T ∧ Hid (T.data.toList = List.replicate k 32) ∧ T.size = k
/-- The longer line, as far as it is made. -/
def WiInv (s : ByteArray) (m : Nat) (v i : Value) : Prop := ∃ (k : Nat) (S : ByteArray), k ≤ s.size ∧ i = .int .i64 k ∧ v = .string S ∧ Hid (S.data.toList = List.replicate m 32 ++ wideL m (s.data.toList.take k)) ∧ Hid (Clean s k)
theorem wi_size {s S : ByteArray} {m k : Nat} (h : S.data.toList = List.replicate m 32 ++ wideL m (s.data.toList.take k)) (hs : s.size ≤ 300) (hm : m ≤ 3) : S.size ≤ 1300 := by
  have h1 := size_list S
  have h2 := wideL_len m (s.data.toList.take k)
  have h3 : (s.data.toList.take k).length ≤ 300 := by rw [List.length_take, size_list]; omega
  have h4 : (m + 1) * (s.data.toList.take k).length ≤ 4 * 300 := Nat.mul_le_mul (by omega) h3
  rw [h, List.length_append, List.length_replicate] at h1
  omega
theorem extract_at (s : ByteArray) {j : Nat} (h : j < s.size) : (s.extract j (j + 1)).data.toList = [s[j]'h] := by
  have hl : j < s.data.toList.length := by rw [size_list]; exact h
  rw [ByteArray.data_extract, Array.toList_extract]
  simp only [List.extract]
  rw [show j + 1 - j = 1 by omega, List.drop_eq_getElem_cons hl]
  rfl
/-- One byte more. -/
theorem wi_next {s S T x : ByteArray} {m k : Nat} {c : UInt8} (h : k < s.size) (hc : (s[k]'h) = c) (hS : S.data.toList = List.replicate m 32 ++ wideL m (s.data.toList.take k)) (hT : T.data.toList = List.replicate m 32) (hx : x.data.toList = [c]) :
    (c = 32 → ((S ++ T) ++ x).data.toList = List.replicate m 32 ++ wideL m (s.data.toList.take (k + 1))) ∧ (c ≠ 32 → (S ++ x).data.toList = List.replicate m 32 ++ wideL m (s.data.toList.take (k + 1))) := by
  have hl : k < s.data.toList.length := by rw [size_list]; exact h
  have hg : s.data.toList[k] = c := hc
  have ht : s.data.toList.take (k + 1) = s.data.toList.take k ++ [c] := by rw [List.take_succ_eq_append_getElem hl, hg]
  have ap : ∀ a b : ByteArray, (a ++ b).data.toList = a.data.toList ++ b.data.toList := fun a b => by rw [ByteArray.data_append, Array.toList_append]
  rw [ht, wideL_snoc, ap, ap, ap, hS, hT, hx]
  exact ⟨fun e => by rw [if_pos e, e]; simp, fun e => by rw [if_neg e]; simp⟩
theorem big_no {a : Nat} (h : a ≤ 10000) : ¬ 9223372036854775807 < a := by omega
section
variable {W : World}
set_option maxRecDepth 100000 in
set_option maxHeartbeats 4000000 in
theorem blanks_in (hL : Laid W) (s : ByteArray) (hs : s.size ≤ 300) (m : Nat) (hm1 : 1 ≤ m) (hm3 : m ≤ 3) : Calls Tryd.prog 6 #[.string s, .int .i64 (m : Int)] W fun e W' => e = .returned (.bool true) ∧ Below W.heap.size W W' := by
  have hsi : ¬ (300 : Int) < (s.size : Int) := by omega
  have i1 : ¬ (m : Int) < 1 := by omega
  have i3 : ¬ (3 : Int) < (m : Int) := by omega
  have HS := hide hs
  have HM := hide hm3
  go_enter Tryd.func6, Tryd.ntmps6
  go_wp2_with (go_at_call 8; refine (awake_any hL).mono ?_; rintro e w1 ⟨rfl, g1⟩; replace g1 := hide g1)
  go_loop [6, 7] (fun v i => BlInv m v i) (fun _ i => m - (intOf i).toNat)
  case atStart => exact ⟨0, ⟨#[]⟩, Nat.zero_le _, rfl, rfl, rfl, rfl⟩
  case round =>
    obtain ⟨k, T, hk, rfl, rfl, HT0, hTk⟩ := hrel
    by_cases hlt : k < m
    · have hki := int_lt hlt
      have e1 : wrap64 ((k : Int) + 1) = (k : Int) + 1 := by unfold wrap64; omega
      have o1 : ¬ 9223372036854775807 < T.size + 1 := big_no (by omega)
      have HX : Hid ((T ++ (⟨#[32]⟩ : ByteArray)).data.toList = List.replicate (k + 1) 32) := by
        show _ = _
        rw [cat_list, HT0.out, List.replicate_succ']
      have HZ : Hid ((T ++ (⟨#[32]⟩ : ByteArray)).size = k + 1) := by
        show _ = _
        rw [cat_size, hTk]
        rfl
      go_wp2
      go_round
      case rel => exact ⟨k + 1, _, by omega, by go_num, rfl, HX.out, HZ.out⟩
      case measure => simp [intOf]; omega
    · obtain rfl : k = m := by omega
      have hki := int_nlt k
      obtain ⟨m, rfl⟩ : ∃ m, k = m := ⟨_, rfl⟩
      clear hk hlt
      go_wp2
      go_loop [8, 9] (fun v i => WiInv s k v i) (fun _ i => s.size - (intOf i).toNat)
      case atStart => exact ⟨0, T, Nat.zero_le _, rfl, rfl, by show _ = _; rw [HT0.out]; simp [wideL], fun i _ h => by omega⟩
      case round =>
        obtain ⟨j, S, hj, rfl, rfl, HS0, HC⟩ := hrel
        have hSz := wi_size HS0.out HS.out HM.out
        by_cases hlt : j < s.size
        · have hji := int_lt hlt
          have e1 : wrap64 ((j : Int) + 1) = (j : Int) + 1 := by unfold wrap64; omega
          by_cases h10 : (s[j]'hlt) = 10
          · have q10 : ((s[j]'hlt).toNat : Int) = 10 := by rw [h10]; rfl
            clear h10
            go_wp2
            go_ret
            exact ⟨rfl, below_gr g1.out⟩
          · have q10 : ¬ ((s[j]'hlt).toNat : Int) = 10 := byte_of (d := 10) rfl h10
            by_cases h13 : (s[j]'hlt) = 13
            · have q13 : ((s[j]'hlt).toNat : Int) = 13 := by rw [h13]; rfl
              clear h13 h10
              go_wp2
              go_ret
              exact ⟨rfl, below_gr g1.out⟩
            · have q13 : ¬ ((s[j]'hlt).toNat : Int) = 13 := byte_of (d := 13) rfl h13
              have HC2 := hide (HC.out.next hlt h10 h13)
              obtain ⟨x, hx⟩ : ∃ x, x = s.extract j (j + 1) := ⟨_, rfl⟩
              have hxl : x.data.toList = [s[j]'hlt] := by rw [hx]; exact extract_at s hlt
              have hxs : x.size = 1 := by rw [← size_list x, hxl]; rfl
              have hsl : ∀ W, (Instr.slice 9 (.string s) (some (.int .i64 (j : Int))) (some (.int .i64 ((j : Int) + 1))) none).run Tryd.prog W = .ok (.string x) W := fun W => by
                have := run_slice_string (P := Tryd.prog) W 9 s .i64 .i64 (j : Int) ((j : Int) + 1) Tryd.underlying9 (by omega) (by omega) (by omega)
                rw [this, hx]
                rfl
              have HN := hide (wi_next (c := s[j]'hlt) (m := k) (k := j) hlt rfl HS0.out HT0.out hxl)
              obtain ⟨c, hcc⟩ : ∃ c : Int, c = ((s[j]'hlt).toNat : Int) := ⟨_, rfl⟩
              have b10 : (c == 10) = false := by rw [hcc]; simpa using q10
              have b13 : (c == 13) = false := by rw [hcc]; simpa using q13
              by_cases h32 : (s[j]'hlt) = 32
              · have b32 : c = 32 := by rw [hcc, h32]; rfl
                have q32 : ((s[j]'hlt).toNat : Int) = 32 := by rw [h32]; rfl
                have HN2 := hide (HN.out.1 h32)
                have o1 : ¬ 9223372036854775807 < S.size + k := big_no (by omega)
                have o2 : ¬ 9223372036854775807 < S.size + k + 1 := big_no (by omega)
                clear h13 h10 q10 q13 hcc h32 HN hx hxl b10 b13 b32
                go_wp2
                go_round
                case rel => exact ⟨j + 1, _, by omega, by go_num, rfl, HN2.out, HC2.out⟩
                case measure => simp [intOf]; omega
              · have b32 : (c == 32) = false := by rw [hcc]; simpa using byte_of (d := 32) rfl h32
                have HN2 := hide (HN.out.2 h32)
                have o1 : ¬ 9223372036854775807 < S.size + 1 := big_no (by omega)
                have hc' : ((s[j]'hlt).toNat : Int) = c := hcc.symm
                clear h13 h10 q10 q13 hcc h32 HN hx hxl
                go_wp2
                go_round
                case rel => exact ⟨j + 1, _, by omega, by go_num, rfl, HN2.out, HC2.out⟩
                case measure => simp [intOf]; omega
        · obtain rfl : j = s.size := by omega
          have hji := int_nlt s.size
          obtain ⟨n10, n13⟩ := HC.out.all
          have hlen := size_list s
          have hL1 := hL.on (below_gr g1.out)
          have hSl := HS0.out
          rw [← hlen, List.take_length] at hSl
          have hN : (List.replicate k 32 ++ wideL k s.data.toList : List UInt8).length = S.size := by rw [← hSl, size_list]
          have HW := blanks_ways n10 (by omega) hm3 S.size hN
          have ap : ∀ a b : ByteArray, (a ++ b).data.toList = a.data.toList ++ b.data.toList := fun a b => by rw [ByteArray.data_append, Array.toList_append]
          obtain ⟨x1, v1, k1, C1⟩ := text_parse hL1 (s ++ ⟨#[13, 10]⟩) (by rw [cat_size]; show s.size + 2 ≤ _; omega)
          rw [cat_list] at C1
          rw [show (s ++ (⟨#[13, 10]⟩ : ByteArray)).size = s.size + 2 from cat_size s #[13, 10]] at k1 C1
          have HSZ : Hid (((S ++ T) ++ (⟨#[13, 10]⟩ : ByteArray)).size = S.size + k + 2) := by
            show _ = _
            rw [cat_size, ByteArray.size_append, hTk]
            rfl
          have HT := hide (fun (w : World) (hg : w1.grownBy w none) => text_parse (hL1.on (below_gr hg)) ((S ++ T) ++ ⟨#[13, 10]⟩) (by rw [HSZ.out]; omega))
          have HCAT : Hid (((S ++ T) ++ (⟨#[13, 10]⟩ : ByteArray)).data.toList = ((List.replicate k 32 ++ wideL k s.data.toList) ++ List.replicate k 32) ++ [13, 10]) := by
            show _ = _
            rw [cat_list, ap, hSl, HT0.out]
          have o1 : ¬ 9223372036854775807 < s.size + 2 := big_no (by omega)
          have o2 : ¬ 9223372036854775807 < S.size + k := big_no (by omega)
          have o3 : ¬ 9223372036854775807 < S.size + k + 2 := big_no (by omega)
          generalize parseN (s.data.toList ++ [13, 10]) = s1 at *
          obtain ⟨s2, hs2⟩ : ∃ s2, s2 = parseN (((List.replicate k 32 ++ wideL k s.data.toList) ++ List.replicate k 32) ++ [13, 10]) := ⟨_, rfl⟩
          rw [← hs2] at HW
          replace hs2 := hide hs2
          replace C1 := hide C1
          have N0 : Hid (W = W) := rfl
          have HW2 := hide HW
          have HSZ2 := hide hSz
          clear HW HC n10 n13 HS0 HT0 hSl hN ap
          rcases HW2.out with ⟨m1, m2⟩ | ⟨e3, e4, hus, hse, hfw⟩
          · subst m1 m2
            clear HW2
            go_wp2_with (first
              | (go_at_call 9; have t := N0; clear t; refine C1.out.mono ?_; rintro e w2 ⟨ca, cc, ta, tc, ka, kc, rfl, q1, g2⟩; obtain ⟨W2, hW2⟩ : ∃ W2, W2 = w2.alloc (.cells (stC moreS ca cc ta tc ka kc) 33) := ⟨_, rfl⟩; obtain ⟨P1, hP1⟩ : ∃ P1, P1 = w2.heap.size := ⟨_, rfl⟩; replace q1 := hide q1; replace g2 := hide g2; clear N0; have N1 : Hid (W = W) := rfl)
              | (have t := N1; clear t; refine wpList_store_row rfl 33 _ _ rfl w2.heap.size (stC moreS ca cc ta tc ka kc) rfl rfl _ _ (World.alloc_heap_new w2 _) (step_size _ _ _ _ _ _ _) rfl (step_one _ _ _ _ _ _ _) ?_; rw [setRow_alloc, ← hW2, ← hP1]; clear N1; replace hW2 := hide hW2; replace hP1 := hide hP1; obtain ⟨x2, v2, k2, C2⟩ := HT.out W2 (gr_trans g2.out (by rw [hW2.out]; exact World.grownBy_alloc _ _ _)); rw [HCAT.out, ← hs2.out] at C2; rw [HSZ.out] at k2 C2; replace C2 := hide C2; have N2 : Hid (W = W) := rfl)
              | (go_at_call 9; have t := N2; clear t; refine C2.out.mono ?_; rintro e w3 ⟨cb, cd, tb, td, kb, kd, rfl, q2, g3⟩; obtain ⟨W3, hW3⟩ : ∃ W3, W3 = w3.alloc (.cells (stC moreS cb cd tb td kb kd) 33) := ⟨_, rfl⟩; obtain ⟨P2, hP2⟩ : ∃ P2, P2 = w3.heap.size := ⟨_, rfl⟩; replace q2 := hide q2; replace g3 := hide g3; clear N2; have N3 : Hid (W = W) := rfl)
              | (have t := N3; clear t; refine wpList_store_row rfl 33 _ _ rfl w3.heap.size (stC moreS cb cd tb td kb kd) rfl rfl _ _ (World.alloc_heap_new w3 _) (step_size _ _ _ _ _ _ _) rfl (step_one _ _ _ _ _ _ _) ?_; rw [setRow_alloc, ← hW3, ← hP2]; clear N3; have T2 := two_of q1.out g2.out hW2.out hP1.out q2.out g3.out hW3 hP2; clear hW3 hP2 hW2 hP1 q1 q2 g2 g3; have y3 := (st_cells T2.b1).2.2.2.2; have y4 := (st_cells T2.b2).2.2.2.2; replace T2 := hide T2; have N4 : Hid (W = W) := rfl))
            go_ret
            exact ⟨by first | rfl | (simp; done), below_gr (gr_trans g1.out T2.out.gr)⟩
          · have HUS := hide hus
            have HSE := hide hse
            have HFW := hide hfw
            rw [hlen] at HSE
            have e6 : (s1.e == 3) = false := by simpa using e3
            have e7 : (s2.e == 3) = false := by simpa using e4
            clear HW2 hus hse hfw e3 e4
            go_wp2_with (first
              | (go_at_call 9; have t := N0; clear t; refine C1.out.mono ?_; rintro e w2 ⟨ca, cc, ta, tc, ka, kc, rfl, q1, g2⟩; obtain ⟨W2, hW2⟩ : ∃ W2, W2 = w2.alloc (.cells (stC s1 ca cc ta tc ka kc) 33) := ⟨_, rfl⟩; obtain ⟨P1, hP1⟩ : ∃ P1, P1 = w2.heap.size := ⟨_, rfl⟩; replace q1 := hide q1; replace g2 := hide g2; clear N0; have N1 : Hid (W = W) := rfl)
              | (have t := N1; clear t; refine wpList_store_row rfl 33 _ _ rfl w2.heap.size (stC s1 ca cc ta tc ka kc) rfl rfl _ _ (World.alloc_heap_new w2 _) (step_size _ _ _ _ _ _ _) rfl (step_one _ _ _ _ _ _ _) ?_; rw [setRow_alloc, ← hW2, ← hP1]; clear N1; replace hW2 := hide hW2; replace hP1 := hide hP1; obtain ⟨x2, v2, k2, C2⟩ := HT.out W2 (gr_trans g2.out (by rw [hW2.out]; exact World.grownBy_alloc _ _ _)); rw [HCAT.out, ← hs2.out] at C2; rw [HSZ.out] at k2 C2; replace C2 := hide C2; have N2 : Hid (W = W) := rfl)
              | (go_at_call 9; have t := N2; clear t; refine C2.out.mono ?_; rintro e w3 ⟨cb, cd, tb, td, kb, kd, rfl, q2, g3⟩; obtain ⟨W3, hW3⟩ : ∃ W3, W3 = w3.alloc (.cells (stC s2 cb cd tb td kb kd) 33) := ⟨_, rfl⟩; obtain ⟨P2, hP2⟩ : ∃ P2, P2 = w3.heap.size := ⟨_, rfl⟩; replace q2 := hide q2; replace g3 := hide g3; clear N2; have N3 : Hid (W = W) := rfl)
              | (have t := N3; clear t; refine wpList_store_row rfl 33 _ _ rfl w3.heap.size (stC s2 cb cd tb td kb kd) rfl rfl _ _ (World.alloc_heap_new w3 _) (step_size _ _ _ _ _ _ _) rfl (step_one _ _ _ _ _ _ _) ?_; rw [setRow_alloc, ← hW3, ← hP2]; clear N3; have T2 := two_of q1.out g2.out hW2.out hP1.out q2.out g3.out hW3 hP2; clear hW3 hP2 hW2 hP1 q1 q2 g2 g3; have TT := hide (fun (z : Int) (hz : z = (s.size : Int) + 2) => T2.put2 (s' := s1) 12 (.int .i64 z) (by rw [set_used, hz, HSE.out]) (fun _ h => by rw [← HSE.out]; exact h)); have y1 := (st_cells T2.b2).2.1; rw [HUS.out] at y1; have y2 : W3.frozen? ⟨P2, 12, none⟩ = false := frozen_of_row _ _ _ _ _ T2.b2; have y3 := (st_cells T2.b1).2.2.2.2; have y4 := (st_cells T2.b2).2.2.2.2; clear T2; have N4 : Hid (W = W) := rfl)
              | (have t := N4; clear t; refine wpList_load_row rfl 33 _ rfl P1 rfl _ _ _ _ (TT.out _ (by omega)).b1 Tryd.underlying33 rfl (step_size _ _ _ _ _ _ _) ?_; clear N4)
              | (refine wpList_load_row rfl 33 _ rfl P2 rfl _ _ _ _ (TT.out _ (by omega)).b2 Tryd.underlying33 rfl (step_size _ _ _ _ _ _ _) ?_)
              | (go_at_call 11; refine (steps_eq HFW.out (TT.out _ (by omega)).now.1 (TT.out _ (by omega)).now.2).mono ?_; rintro e w9 ⟨rfl, g9⟩; replace g9 := hide (gr_trans (TT.out _ (by omega)).gr g9)))
            go_ret
            exact ⟨by first | rfl | (simp; done), below_gr (gr_trans g1.out g9.out)⟩
set_option maxRecDepth 100000 in
set_option maxHeartbeats 1000000 in
theorem textinBlanks_walk (s : ByteArray) (hs : s.size ≤ 140737488351232) (many : Int) (hw : (Lit.int .i64 many).wf = true) (W : World) (hL : Laid W) : Calls Tryd.prog 6 #[.string s, .int .i64 many] W fun e W' => e = .returned (.bool true) ∧ Below W.heap.size W W' := by
  have HA := hide (awake_any hL)
  by_cases h : s.size ≤ 300
  · by_cases h1 : many < 1
    · have hsi : ¬ (300 : Int) < (s.size : Int) := by omega
      clear hw
      go_enter Tryd.func6, Tryd.ntmps6
      go_wp2_with (go_at_call 8; refine HA.out.mono ?_; rintro e w1 ⟨rfl, g1⟩; replace g1 := hide g1)
      go_ret
      exact ⟨rfl, below_gr g1.out⟩
    · by_cases h3 : 3 < many
      · have hsi : ¬ (300 : Int) < (s.size : Int) := by omega
        clear hw
        go_enter Tryd.func6, Tryd.ntmps6
        go_wp2_with (go_at_call 8; refine HA.out.mono ?_; rintro e w1 ⟨rfl, g1⟩; replace g1 := hide g1)
        go_ret
        exact ⟨rfl, below_gr g1.out⟩
      · obtain ⟨m, rfl⟩ := Int.eq_ofNat_of_zero_le (show 0 ≤ many by omega)
        exact blanks_in hL s h m (by omega) (by omega)
  · have hsi : (300 : Int) < (s.size : Int) := by omega
    clear hw
    go_enter Tryd.func6, Tryd.ntmps6
    go_wp2_with (go_at_call 8; refine HA.out.mono ?_; rintro e w1 ⟨rfl, g1⟩; replace g1 := hide g1)
    go_ret
    exact ⟨rfl, below_gr g1.out⟩
end
end Go.Proofs.YthofdmepofepgaaDoor
