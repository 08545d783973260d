/- FrameWhole returns true for every text and every two rows of bytes, and writes nothing that was there. Conditions: none. -/
import Derived.Test.YtggaifkjmlhmlaaFrameAw
import Derived.Test.YtggaifkjmlhmlaaByteOnto
namespace Go.Proofs.Ytggaifkjmlhmlaa
open Go.RowKit

theorem byU_two (u v : List UInt8) : byU (u ++ v) = byU u ++ byU v := by unfold byU byV ints; simp
theorem own_grow {n0 n : Nat} {w w' : World} {v : Value} {xs : List Value} (h : w.ownsRow n0 5 1 v n xs) (hg : w.grownBy w' none) : w'.ownsRow n0 5 1 v n xs := own_same h fun k hk => hg.block k (own_at h hk).2.1 (by simp)
theorem own_bu {n0 n c : Nat} {w : World} {a : Option Addr} {u : List UInt8} {xs : List Value} (hx : xs = byU u) (hu : u.length = n) (h : w.ownsRow n0 5 1 (.slice a n c) n xs) : Bu w a n c u := by
  subst hx hu
  exact ValAt.bu (n0 := n0) h
theorem line_whole {l v : List UInt8} (hf : (10 : UInt8) ∉ l) (hl : l.length ≤ 2048) : lineN ((l ++ [13, 10]) ++ v) = (l, (l.length : Int) + 2, 0) := by
  have h := lineN_of (p := l ++ [13]) (r := v) (by simp [hf])
  rw [noCR_snoc, if_neg (by omega)] at h
  have e : (l ++ [13, 10]) ++ v = (l ++ [13]) ++ 10 :: v := by simp
  rw [e, h, List.length_append]
  congr 2
theorem body_whole {l v : List UInt8} (hl : l.length ≤ 1000) : bodyN ((l ++ [13, 10]) ++ v) (l.length : Int) = (l, (l.length : Int) + 2, 0) := by
  unfold bodyN
  rw [if_neg (by omega), if_neg (by rw [List.length_append, List.length_append]; simp; omega)]
  have h1 : ((l ++ [13, 10]) ++ v).drop ((l.length : Int).toNat) = [13, 10] ++ v := by
    rw [Int.toNat_natCast, List.append_assoc, List.drop_left]
  have h2 : ((l ++ [13, 10]) ++ v).take ((l.length : Int).toNat) = l := by
    rw [Int.toNat_natCast, List.append_assoc, List.take_left]
  rw [h1, h2]
  exact if_pos (by simp)
theorem lit2 (w : World) : Bu (w.alloc (.cells #[.int .u8 13, .int .u8 10] 5)) (some ⟨w.heap.size, 0, none⟩) 2 2 [13, 10] := lit_bu w [13, 10] (0, 0) (by decide) (by decide)
set_option maxRecDepth 100000 in
set_option maxHeartbeats 2000000 in
theorem frameWhole_in {W : World} (s : ByteArray) {a1 a2 : Option Addr} {len1 cap1 len2 cap2 : Nat} {u v : List UInt8} (hu : Bu W a1 len1 cap1 u) (hv : Bu W a2 len2 cap2 v) (hs : s.size ≤ 2048) (h1 : len1 ≤ 1000) (h2 : len2 ≤ 1000) :
    Calls Try.prog 8 #[.string s, .slice a1 len1 cap1, .slice a2 len2 cap2] W fun e W' => e = .returned (.bool true) ∧ Below W.heap.size W W' := by
  have hsi : (s.size : Int) ≤ 2048 := by omega
  have hi1 : (len1 : Int) ≤ 1000 := by omega
  have hi2 : (len2 : Int) ≤ 1000 := by omega
  have HU := hide (fun (w : World) (h : Below W.heap.size W w) => hu.on h)
  have HV := hide (fun (w : World) (h : Below W.heap.size W w) => hv.on h)
  have HN := hide hu.n
  have HM := hide hv.n
  clear hu hv
  go_enter Try.func8, Try.ntmps8
  go_wp2_with (go_at_call 9; refine (awake_any _).mono ?_; rintro e w1 ⟨rfl, g1⟩; have B1 := hide (below_gr g1); clear g1)
  go_loopw [8] (fun i wr => ∃ k : Nat, k ≤ s.size ∧ i = .int .i64 k ∧ Hid (∀ j, ∀ h : j < s.data.toList.length, j < k → s.data.toList[j] ≠ 10) ∧ w1 = wr) (fun i _ => s.size - (intOf i).toNat)
  case atStart => exact ⟨0, by omega, rfl, fun j _ h => absurd h (Nat.not_lt_zero _), rfl⟩
  case round =>
    obtain ⟨k, hk, rfl, HX, rfl⟩ := hrel
    have hsl : s.data.toList.length = s.size := rfl
    by_cases hlt : k < s.size
    · by_cases hq : s.data.toList[k]'hlt = 10
      · have hq2 : ((s[k]'hlt).toNat : Int) = 10 := by
          have : s[k]'hlt = 10 := hq
          rw [this]
          rfl
        clear hq HX
        go_wp2
        go_ret
        exact ⟨rfl, B1.out⟩
      · have hq2 : ¬ ((s[k]'hlt).toNat : Int) = 10 := fun e => hq (by
          show s[k]'hlt = 10
          apply UInt8.toNat.inj
          have h10 : (10 : UInt8).toNat = 10 := rfl
          omega)
        have HY : Hid (∀ j, ∀ h : j < s.data.toList.length, j < k + 1 → s.data.toList[j] ≠ 10) := fun j h hj => by
          by_cases e : j = k
          · subst e; exact hq
          · exact HX.out j h (by omega)
        clear hq HX
        go_wp2
        go_roundw
        case rel => exact ⟨k + 1, by omega, by go_num, HY, by first | trivial | rfl⟩
        case measure => first | (simp [intOf]; done) | (simp [intOf]; omega)
    · have hno : (10 : UInt8) ∉ s.data.toList := fun hm => by
        obtain ⟨j, hj, e⟩ := List.getElem_of_mem hm
        exact HX.out j hj (by omega) e
      have hL := line_whole (v := v) hno (by rw [hsl]; exact hs)
      obtain ⟨S, hS⟩ : ∃ S, S = s ++ (⟨#[13, 10]⟩ : ByteArray) := ⟨_, rfl⟩
      have hSl : S.data.toList = s.data.toList ++ [13, 10] := by rw [hS]; simp
      have hSz : S.size = s.size + 2 := by
        have : S.size = S.data.toList.length := rfl
        rw [this, hSl, List.length_append, hsl]
        rfl
      obtain ⟨c2, w2, hcv, F2, g2⟩ := free_bytes S (by rw [hSz]; unfold maxLen; omega) w1
      rw [hSl, hSz] at F2
      rw [hSz, hS] at hcv
      replace F2 := hide F2
      have B2 := hide (Bt B1.out (below_gr g2))
      have HLn := hide (fun (w : World) (g n c : Nat) (h : Free w1.heap.size w g n c (s.data.toList ++ [13, 10] ++ v)) => by have := line_any h.bu; rw [hL] at this; exact this)
      have hBd := body_whole (l := u) (v := v) (by rw [HN.out]; exact h1)
      have HBd := hide (fun (w : World) (a : Option Addr) (c : Nat) (h : Bu w a (len1 + 2 + len2) c (u ++ [13, 10] ++ v)) => by have := body_any h (u.length : Int) (by rw [HN.out]; omega); rw [hBd, HN.out] at this; exact this)
      have e1 : wrap64 ((s.size : Int) + 2) = (s.size : Int) + 2 := by unfold wrap64; omega
      have e2 : wrap64 ((len1 : Int) + 2) = (len1 : Int) + 2 := by unfold wrap64; omega
      have ha : s.data.toList.toArray = s.data := Array.toArray_toList
      simp only [lineV, BodyEnd, hsl, ha, HN.out] at HLn HBd
      have N1 := hide B1.out.size
      have N2 := hide g2.size
      clear hL hBd hSl hSz hS g2 HX hno B1 ha
      go_wp2_with (first
        | (have t := F2; clear t; at_builtin; refine wpList_append_free rfl _ _ rfl w1.heap.size _ _ _ _ rfl F2.out _ len2 cap2 v rfl (HV.out _ B2.out) (by omega) N2.out ?_; intro g3 c3 w3 F3 k3; have B3 := hide (gr_below B2.out k3 (fun j hj => by cases hj; exact N1.out)); replace F3 := hide F3; clear k3 B2 F2 N2)
        | (have t := F3; clear t; go_at_call 10; refine (HLn.out _ _ _ _ F3.out).mono ?_; rintro e w4 ⟨rfl, k4⟩; have B4 := hide (Bt B3.out (below_gr k4)); clear k4 F3 HLn B3)
        | (have t := B4; clear t; at_builtin; refine wpList_append_bs rfl _ _ rfl w4.heap.size _ 0 [] rfl (World.ownsRow_nil _ _ _ _) _ len1 cap1 u rfl HN.out (HU.out _ B4.out).b (by omega) (Nat.le_refl _) ?_; intro v5 w5 o5 k5 _; rw [Nat.zero_add] at o5; obtain ⟨a5, c5, rfl⟩ := own_shape o5; have M5 := hide (below_gr k5).size; have M4 := hide B4.out.size; have B5 := hide (Bt B4.out (below_gr k5)); have O5 := hide (own_grow o5 (World.grownBy_alloc w5 (.cells #[.int .u8 13, .int .u8 10] 5) none)); have B6 := hide (Bt B5.out (below_gr (World.grownBy_alloc w5 (.cells #[.int .u8 13, .int .u8 10] 5) none))); clear k5 o5 B4 B5)
        | (have t := O5; clear t; at_builtin; refine wpList_append_bs rfl _ _ rfl w4.heap.size _ len1 _ rfl O5.out _ 2 2 [13, 10] rfl rfl (lit2 w5).b (by omega) (Nat.le_trans M5.out (by simp)) ?_; intro v7 w7 o7 k7 _; obtain ⟨a7, c7, rfl⟩ := own_shape o7; have B7 := hide (gr_below B6.out k7 (fun j hj => Nat.le_trans M4.out (own_at O5.out hj).1)); have M7 := hide (Nat.le_trans (Nat.le_trans M5.out (by simp)) k7.size); replace o7 := hide o7; clear k7 O5 B6 M5)
        | (have t := o7; clear t; at_builtin; refine wpList_append_bs rfl _ _ rfl w4.heap.size _ (len1 + 2) _ rfl o7.out _ len2 cap2 v rfl HM.out (HV.out _ B7.out).b (by omega) M7.out ?_; intro v8 w8 o8 k8 _; obtain ⟨a8, c8, rfl⟩ := own_shape o8; have B8 := hide (gr_below B7.out k8 (fun j hj => Nat.le_trans M4.out (own_at o7.out hj).1)); have O8 := hide (own_bu (u := u ++ [13, 10] ++ v) (by rw [byU_two, byU_two]; rfl) (by rw [List.length_append, List.length_append, HN.out, HM.out]; rfl) o8); clear k8 o8 o7 B7 M7)
        | (have t := O8; clear t; go_at_call 12; refine (HBd.out _ _ _ O8.out).mono ?_; rintro e w9 ⟨a9, c9, rfl, v9, k9⟩; have B9 := hide (Bt B8.out (below_gr k9)); have q1 := convU (ValAt.bu v9); rw [HN.out] at q1; have q2 := convU (HU.out _ B9.out); clear k9 O8 HBd B8 v9))
      all_goals go_ret
      all_goals exact ⟨by first | rfl | (simp; done), B9.out⟩
set_option maxRecDepth 100000 in
set_option maxHeartbeats 1000000 in
theorem frameWhole_walk (W : World) (s0 : ByteArray) (_w0 : s0.size ≤ 140737488351232) (a1 : Option Addr) (len1 cap1 : Nat) (z1 : List Int) (w1 : IsRow .u8 W a1 len1 cap1 z1) (a2 : Option Addr) (len2 cap2 : Nat) (z2 : List Int) (w2 : IsRow .u8 W a2 len2 cap2 z2) :
    Calls Try.prog 8 #[.string s0, .slice a1 len1 cap1, .slice a2 len2 cap2] W fun e W' => e = .returned (.bool true) ∧ Below W.heap.size W W' := by
  obtain ⟨u, hu⟩ := Bu.of w1
  obtain ⟨v, hv⟩ := Bu.of w2
  by_cases h0 : s0.size ≤ 2048
  · have i0 : (s0.size : Int) ≤ 2048 := by omega
    by_cases h1 : len1 ≤ 1000
    · have i1 : (len1 : Int) ≤ 1000 := by omega
      by_cases h2 : len2 ≤ 1000
      · exact frameWhole_in s0 hu hv h0 h1 h2
      · have i2 : (1000 : Int) < (len2 : Int) := by omega
        go_enter Try.func8, Try.ntmps8
        go_wp2_with (go_at_call 9; refine (awake_any _).mono ?_; rintro e w1 ⟨rfl, g1⟩)
        go_ret
        exact ⟨rfl, below_gr g1⟩
    · have i1 : (1000 : Int) < (len1 : Int) := by omega
      go_enter Try.func8, Try.ntmps8
      go_wp2_with (go_at_call 9; refine (awake_any _).mono ?_; rintro e w1 ⟨rfl, g1⟩)
      go_ret
      exact ⟨rfl, below_gr g1⟩
  · have i0 : (2048 : Int) < (s0.size : Int) := by omega
    go_enter Try.func8, Try.ntmps8
    go_wp2_with (go_at_call 9; refine (awake_any _).mono ?_; rintro e w1 ⟨rfl, g1⟩)
    go_ret
    exact ⟨rfl, below_gr g1⟩
end Go.Proofs.Ytggaifkjmlhmlaa
