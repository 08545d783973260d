/- TextinEnds returns true for every text, and writes nothing that was there. Conditions: the listed variables hold what the program's text lays. -/
import Derived.Test.YthofdmepofepgaaDoorG40Joined
namespace Go.Proofs.YthofdmepofepgaaDoor
set_option linter.unusedVariables false
open Go.RowKit

/-- No line feed and no carriage return among the first k bytes. -/
def Clean (s : ByteArray) (k : Nat) : Prop := ∀ i, ∀ h : i < s.size, i < k → (s[i]'h) ≠ 10 ∧ (s[i]'h) ≠ 13
theorem Clean.all {s : ByteArray} (h : Clean s s.size) : (10 : UInt8) ∉ s.data.toList ∧ (13 : UInt8) ∉ s.data.toList := by
  have key : ∀ c ∈ s.data.toList, c ≠ 10 ∧ c ≠ 13 := fun c hc => by
    obtain ⟨i, hi, rfl⟩ := List.getElem_of_mem hc
    have hi' : i < s.size := by rw [size_list] at hi; exact hi
    exact h i hi' hi'
  exact ⟨fun h => (key _ h).1 rfl, fun h => (key _ h).2 rfl⟩
theorem Clean.next {s : ByteArray} {k : Nat} (h : Clean s k) (hk : k < s.size) (h1 : (s[k]'hk) ≠ 10) (h2 : (s[k]'hk) ≠ 13) : Clean s (k + 1) := fun i hi hik => by
  by_cases e : i = k
  · subst e; exact ⟨h1, h2⟩
  · exact h i hi (by omega)
/-- Where the look through a text's bytes stands. -/
def EInv (s : ByteArray) (w1 : World) (i : Value) (wr : World) : Prop := ∃ k : Nat, k ≤ s.size ∧ i = .int .i64 k ∧ wr = w1 ∧ Hid (Clean s k)
theorem byte_of {c d : UInt8} {n : Nat} (hd : d.toNat = n) (h : c ≠ d) : ¬ ((c.toNat : Nat) : Int) = (n : Int) := fun e => h (by
  apply UInt8.toNat_inj.1
  omega)
section
variable {W : World}
set_option maxRecDepth 100000 in
set_option maxHeartbeats 4000000 in
theorem ends_in (hL : Laid W) (s : ByteArray) (hs : s.size ≤ 300) : Calls Tryd.prog 7 #[.string s] W fun e W' => e = .returned (.bool true) ∧ Below W.heap.size W W' := by
  have hsi : ¬ (300 : Int) < (s.size : Int) := by omega
  have HB := hide hs
  go_enter Tryd.func7, Tryd.ntmps7
  go_wp2_with (go_at_call 8; refine (awake_any hL).mono ?_; rintro e w1 ⟨rfl, g1⟩; replace g1 := hide g1)
  go_loopw [4] (fun i wr => EInv s w1 i wr) (fun i _ => s.size - (intOf i).toNat)
  case atStart => exact ⟨0, Nat.zero_le _, rfl, rfl, fun i _ h => by omega⟩
  case round =>
    obtain ⟨k, hk, rfl, rfl, HC⟩ := hrel
    by_cases hlt : k < s.size
    · have hki := int_lt hlt
      have e1 : wrap64 ((k : Int) + 1) = (k : Int) + 1 := by unfold wrap64; omega
      by_cases h10 : (s[k]'hlt) = 10
      · have q10 : ((s[k]'hlt).toNat : Int) = 10 := by rw [h10]; rfl
        clear h10
        go_wp2
        go_ret
        exact ⟨rfl, below_gr g1.out⟩
      · have q10 : ¬ ((s[k]'hlt).toNat : Int) = 10 := byte_of (d := 10) rfl h10
        by_cases h13 : (s[k]'hlt) = 13
        · have q13 : ((s[k]'hlt).toNat : Int) = 13 := by rw [h13]; rfl
          clear h13 h10
          go_wp2
          go_ret
          exact ⟨rfl, below_gr g1.out⟩
        · have q13 : ¬ ((s[k]'hlt).toNat : Int) = 13 := byte_of (d := 13) rfl h13
          have HC2 := hide (HC.out.next hlt h10 h13)
          obtain ⟨c, hcc⟩ : ∃ c : Int, c = ((s[k]'hlt).toNat : Int) := ⟨_, rfl⟩
          have b10 : (c == 10) = false := by rw [hcc]; simpa using q10
          have b13 : (c == 13) = false := by rw [hcc]; simpa using q13
          have hc' : ((s[k]'hlt).toNat : Int) = c := hcc.symm
          clear h13 h10 q10 q13 hcc
          go_wp2
          go_roundw
          case rel => exact ⟨k + 1, by omega, by go_num, rfl, HC2.out⟩
          case measure => simp [intOf]; omega
    · obtain rfl : k = s.size := by omega
      have hki := int_nlt s.size
      obtain ⟨n10, n13⟩ := HC.out.all
      have hlen := size_list s
      have hL1 := hL.on (below_gr g1.out)
      have HW := ends_ways n10 n13 (by omega)
      obtain ⟨x1, v1, k1, C1⟩ := text_parse hL1 (s ++ ⟨#[13, 10]⟩) (by rw [cat_size]; show s.size + 2 ≤ _; omega)
      rw [cat_list] at C1
      rw [show (s ++ (⟨#[13, 10]⟩ : ByteArray)).size = s.size + 2 from cat_size s #[13, 10]] at k1 C1
      have o1 : ¬ 9223372036854775807 < s.size + 2 := by omega
      have o2 : ¬ 9223372036854775807 < s.size + 1 := by omega
      have HT := hide (fun (w : World) (hg : wr.grownBy w none) => text_parse (hL1.on (below_gr hg)) (s ++ ⟨#[10]⟩) (by rw [cat_size]; show s.size + 1 ≤ _; omega))
      have HCAT : Hid ((s ++ (⟨#[10]⟩ : ByteArray)).data.toList = s.data.toList ++ [10]) := cat_list s #[10]
      generalize parseN (s.data.toList ++ [13, 10]) = s1 at *
      obtain ⟨s2, hs2⟩ : ∃ s2, s2 = parseN (s.data.toList ++ [10]) := ⟨_, rfl⟩
      rw [← hs2] at HW
      replace hs2 := hide hs2
      replace C1 := hide C1
      have N0 : Hid (W = W) := rfl
      have HW2 := hide HW
      clear HW HC n10 n13
      rcases HW2.out with ⟨m1, m2⟩ | ⟨e3, e4, hus, hse, hfw⟩
      · subst m1 m2
        clear HW2
        go_wp2_with (first
          | (go_at_call 9; have t := N0; clear t; refine C1.out.mono ?_; rintro e w2 ⟨ca, cc, ta, tc, ka, kc, rfl, q1, g2⟩; obtain ⟨W2, hW2⟩ : ∃ W2, W2 = w2.alloc (.cells (stC moreS ca cc ta tc ka kc) 33) := ⟨_, rfl⟩; obtain ⟨P1, hP1⟩ : ∃ P1, P1 = w2.heap.size := ⟨_, rfl⟩; replace q1 := hide q1; replace g2 := hide g2; clear N0; have N1 : Hid (W = W) := rfl)
          | (have t := N1; clear t; refine wpList_store_row rfl 33 _ _ rfl w2.heap.size (stC moreS ca cc ta tc ka kc) rfl rfl _ _ (World.alloc_heap_new w2 _) (step_size _ _ _ _ _ _ _) rfl (step_one _ _ _ _ _ _ _) ?_; rw [setRow_alloc, ← hW2, ← hP1]; clear N1; replace hW2 := hide hW2; replace hP1 := hide hP1; obtain ⟨x2, v2, k2, C2⟩ := HT.out W2 (gr_trans g2.out (by rw [hW2.out]; exact World.grownBy_alloc _ _ _)); rw [HCAT.out, ← hs2.out] at C2; rw [show (s ++ (⟨#[10]⟩ : ByteArray)).size = s.size + 1 from cat_size s #[10]] at k2 C2; replace C2 := hide C2; have N2 : Hid (W = W) := rfl)
          | (go_at_call 9; have t := N2; clear t; refine C2.out.mono ?_; rintro e w3 ⟨cb, cd, tb, td, kb, kd, rfl, q2, g3⟩; obtain ⟨W3, hW3⟩ : ∃ W3, W3 = w3.alloc (.cells (stC moreS cb cd tb td kb kd) 33) := ⟨_, rfl⟩; obtain ⟨P2, hP2⟩ : ∃ P2, P2 = w3.heap.size := ⟨_, rfl⟩; replace q2 := hide q2; replace g3 := hide g3; clear N2; have N3 : Hid (W = W) := rfl)
          | (have t := N3; clear t; refine wpList_store_row rfl 33 _ _ rfl w3.heap.size (stC moreS cb cd tb td kb kd) rfl rfl _ _ (World.alloc_heap_new w3 _) (step_size _ _ _ _ _ _ _) rfl (step_one _ _ _ _ _ _ _) ?_; rw [setRow_alloc, ← hW3, ← hP2]; clear N3; have T2 := two_of q1.out g2.out hW2.out hP1.out q2.out g3.out hW3 hP2; clear hW3 hP2 hW2 hP1 q1 q2 g2 g3; have T3 := T2.put1 12 (.int .i64 (wrap64 (moreS.used - 1))) (set_used _ _ _ _ _ _ _ _) (fun _ h => h); have y1 := (st_cells T2.b1).2.1; have y2 : W3.frozen? ⟨P1, 12, none⟩ = false := frozen_of_row _ _ _ _ _ T2.b1; have y3 := (st_cells T2.b1).2.2.2.2; have y4 := (st_cells T2.b2).2.2.2.2; replace T3 := hide T3; clear T2; have N4 : Hid (W = W) := rfl))
        go_ret
        exact ⟨by first | rfl | (simp; done), below_gr (gr_trans g1.out T3.out.gr)⟩
      · have HUS := hide hus
        have HSE := hide hse
        have HFW := hide hfw
        rw [hlen] at HUS HSE
        have HZ : Hid ((s.size : Int) + 2 - 1 = (s.size : Int) + 1) := by show (s.size : Int) + 2 - 1 = (s.size : Int) + 1; omega
        have e6 : (s1.e == 3) = false := by simpa using e3
        have e7 : (s2.e == 3) = false := by simpa using e4
        clear HW2 hus hse hfw e3 e4
        go_wp2_with (first
          | (go_at_call 9; have t := N0; clear t; refine C1.out.mono ?_; rintro e w2 ⟨ca, cc, ta, tc, ka, kc, rfl, q1, g2⟩; obtain ⟨W2, hW2⟩ : ∃ W2, W2 = w2.alloc (.cells (stC s1 ca cc ta tc ka kc) 33) := ⟨_, rfl⟩; obtain ⟨P1, hP1⟩ : ∃ P1, P1 = w2.heap.size := ⟨_, rfl⟩; replace q1 := hide q1; replace g2 := hide g2; clear N0; have N1 : Hid (W = W) := rfl)
          | (have t := N1; clear t; refine wpList_store_row rfl 33 _ _ rfl w2.heap.size (stC s1 ca cc ta tc ka kc) rfl rfl _ _ (World.alloc_heap_new w2 _) (step_size _ _ _ _ _ _ _) rfl (step_one _ _ _ _ _ _ _) ?_; rw [setRow_alloc, ← hW2, ← hP1]; clear N1; replace hW2 := hide hW2; replace hP1 := hide hP1; obtain ⟨x2, v2, k2, C2⟩ := HT.out W2 (gr_trans g2.out (by rw [hW2.out]; exact World.grownBy_alloc _ _ _)); rw [HCAT.out, ← hs2.out] at C2; rw [show (s ++ (⟨#[10]⟩ : ByteArray)).size = s.size + 1 from cat_size s #[10]] at k2 C2; replace C2 := hide C2; have N2 : Hid (W = W) := rfl)
          | (go_at_call 9; have t := N2; clear t; refine C2.out.mono ?_; rintro e w3 ⟨cb, cd, tb, td, kb, kd, rfl, q2, g3⟩; obtain ⟨W3, hW3⟩ : ∃ W3, W3 = w3.alloc (.cells (stC s2 cb cd tb td kb kd) 33) := ⟨_, rfl⟩; obtain ⟨P2, hP2⟩ : ∃ P2, P2 = w3.heap.size := ⟨_, rfl⟩; replace q2 := hide q2; replace g3 := hide g3; clear N2; have N3 : Hid (W = W) := rfl)
          | (have t := N3; clear t; refine wpList_store_row rfl 33 _ _ rfl w3.heap.size (stC s2 cb cd tb td kb kd) rfl rfl _ _ (World.alloc_heap_new w3 _) (step_size _ _ _ _ _ _ _) rfl (step_one _ _ _ _ _ _ _) ?_; rw [setRow_alloc, ← hW3, ← hP2]; clear N3; have T2 := two_of q1.out g2.out hW2.out hP1.out q2.out g3.out hW3 hP2; clear hW3 hP2 hW2 hP1 q1 q2 g2 g3; have T3 := T2.put1 (s' := s2) 12 (.int .i64 ((s.size : Int) + 2 - 1)) (by rw [set_used, HZ.out, HSE.out]) (fun _ h => by rw [← HSE.out]; exact h); have y1 := (st_cells T2.b1).2.1; rw [HUS.out] at y1; have y2 : W3.frozen? ⟨P1, 12, none⟩ = false := frozen_of_row _ _ _ _ _ T2.b1; have y3 := (st_cells T2.b1).2.2.2.2; have y4 := (st_cells T2.b2).2.2.2.2; obtain ⟨W4, hW4⟩ : ∃ W4, W4 = W3.setCell ⟨P1, 12, none⟩ (.int .i64 ((s.size : Int) + 2 - 1)) := ⟨_, rfl⟩; rw [← hW4] at T3; have ST := hide (steps_eq HFW.out T3.now.1 T3.now.2); replace T3 := hide T3; replace hW4 := hide hW4; clear T2; have N4 : Hid (W = W) := rfl)
          | (have t := N4; clear t; rw [← hW4.out]; refine wpList_load_row rfl 33 _ rfl P1 rfl _ _ _ _ T3.out.b1 Tryd.underlying33 rfl (step_size _ _ _ _ _ _ _) ?_; clear N4)
          | (refine wpList_load_row rfl 33 _ rfl P2 rfl _ _ _ _ T3.out.b2 Tryd.underlying33 rfl (step_size _ _ _ _ _ _ _) ?_)
          | (go_at_call 11; refine ST.out.mono ?_; rintro e w9 ⟨rfl, g9⟩; replace g9 := hide g9))
        go_ret
        exact ⟨by first | rfl | (simp; done), below_gr (gr_trans g1.out (gr_trans T3.out.gr g9.out))⟩
set_option maxRecDepth 100000 in
set_option maxHeartbeats 1000000 in
theorem textinEnds_walk (s : ByteArray) (hs : s.size ≤ 140737488351232) (W : World) (hL : Laid W) : Calls Tryd.prog 7 #[.string s] W fun e W' => e = .returned (.bool true) ∧ Below W.heap.size W W' := by
  by_cases h : s.size ≤ 300
  · exact ends_in hL s h
  · have hsi : (300 : Int) < (s.size : Int) := by omega
    go_enter Tryd.func7, Tryd.ntmps7
    go_wp2_with (go_at_call 8; refine (awake_any hL).mono ?_; rintro e w1 ⟨rfl, g1⟩; replace g1 := hide g1)
    go_ret
    exact ⟨rfl, below_gr g1.out⟩
end
end Go.Proofs.YthofdmepofepgaaDoor
