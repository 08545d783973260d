/- What package frame's Pass, Key and Keyed answer, as chapter 13 says. Conditions: none of the program's variables is read. -/
import Derived.Test.YtggaifkjmlhmlaaFrameF
namespace Go.Proofs.Ytggaifkjmlhmlaa
open Go.RowKit

/-- What Pass tells. -/
def passV (x : Int × Int × Bool) : Value := .tuple #[.int .i64 x.1, .int .i64 x.2.1, .bool x.2.2]
theorem passN_neg (l : List UInt8) {s : Int} (h : s < 0) (b : Bool) : passN l s b = passN l 0 b := by
  unfold passN
  simp only [if_pos h]
  rfl
theorem feedI_lt (l : List UInt8) : feedI l < l.length ∧ -1 ≤ feedI l := by
  rcases feeds l with hf | ⟨p, r, hl, hf⟩
  · rw [feedI_no hf]; omega
  · rw [hl, feedI_of hf, List.length_append, List.length_cons]; omega
theorem passN_nat {l : List UInt8} {len : Nat} (hn : l.length = len) (k : Nat) (b : Bool) : passN l k b = if len < k then ((len : Int), (k : Int) - len, b) else if b = false then ((k : Int), 0, false) else if feedI (l.drop k) < 0 then ((len : Int), 0, true) else ((k : Int) + feedI (l.drop k) + 1, 0, false) := by
  unfold passN
  rw [if_neg (by omega : ¬ (k : Int) < 0), hn]
  by_cases h1 : len < k
  · simp only [if_pos h1, if_pos (show (len : Int) < (k : Int) by omega)]
  · simp only [if_neg h1, if_neg (show ¬ (len : Int) < (k : Int) by omega), Int.toNat_natCast]
set_option maxRecDepth 100000 in
set_option maxHeartbeats 1000000 in
theorem pass_nat {w : World} {a : Option Addr} {len cap : Nat} {l : List UInt8} (h : Bu w a len cap l) (k : Nat) (hkb : (k : Int) < 9223372036854775808) (b : Bool) :
    Calls Try.prog 18 #[.slice a len cap, .int .i64 (k : Int), .bool b] w fun e w' => e = .returned (passV (passN l k b)) ∧ w = w' := by
  have hn := h.n
  have hc := h.c
  have hm := h.m
  unfold maxLen at hm
  rw [passN_nat hn]
  by_cases h1 : len < k
  · rw [if_pos h1]
    have e1 : wrap64 ((k : Int) - (len : Int)) = (k : Int) - (len : Int) := by unfold wrap64; omega
    have e2 : 0 < wrap64 ((k : Int) - (len : Int)) := by rw [e1]; omega
    have h1i : (len : Int) < (k : Int) := by omega
    have E1 := hide e1
    clear hkb hm hc hn h h1 e1
    cases b
    all_goals
      go_enter Try.func18, Try.ntmps18
      go_wp2
      go_ret3
      exact ⟨by rw [E1.out]; rfl, rfl⟩
  · rw [if_neg h1]
    have h1i : (k : Int) ≤ (len : Int) := by omega
    cases b with
    | false =>
      rw [if_pos rfl]
      clear hkb hm hc hn h h1
      go_enter Try.func18, Try.ntmps18
      go_wp2
      go_ret3
      exact ⟨rfl, rfl⟩
    | true =>
      rw [if_neg (by decide)]
      obtain ⟨a', hsl, hb⟩ := h.back (i := k) (by omega)
      have HI := hide (index_any (hb w h))
      have hlt := feedI_lt (l.drop k)
      rw [List.length_drop, hn] at hlt
      obtain ⟨f, hf⟩ : ∃ f, feedI (l.drop k) = f := ⟨_, rfl⟩
      rw [hf] at HI hlt ⊢
      by_cases h2 : f < 0
      · rw [if_pos h2]
        clear hkb hm hc hn h h1 hb hf hlt
        go_enter Try.func18, Try.ntmps18
        go_wp2_with (go_at_call 20; refine HI.out.mono ?_; rintro e w1 ⟨rfl, rfl⟩)
        go_ret3
        exact ⟨rfl, rfl⟩
      · rw [if_neg h2]
        have E1 := hide (show wrap64 ((k : Int) + f) = (k : Int) + f by unfold wrap64; omega)
        have E2 := hide (show wrap64 ((k : Int) + f + 1) = (k : Int) + f + 1 by unfold wrap64; omega)
        clear hkb hm hc hn h h1 hb hf hlt
        go_enter Try.func18, Try.ntmps18
        go_wp2_with (go_at_call 20; refine HI.out.mono ?_; rintro e w1 ⟨rfl, rfl⟩)
        go_ret3
        exact ⟨by first | rfl | (rw [E1.out, E2.out]; rfl), rfl⟩
set_option maxRecDepth 100000 in
set_option maxHeartbeats 1000000 in
theorem pass_low {w : World} {a : Option Addr} {len cap : Nat} {l : List UInt8} (h : Bu w a len cap l) (s : Int) (hs : s < 0) (b : Bool) :
    Calls Try.prog 18 #[.slice a len cap, .int .i64 s, .bool b] w fun e w' => e = .returned (passV (passN l s b)) ∧ w = w' := by
  have hn := h.n
  have hc := h.c
  have hm := h.m
  unfold maxLen at hm
  rw [passN_neg l hs, show (0 : Int) = ((0 : Nat) : Int) from rfl, passN_nat hn, if_neg (by omega : ¬ len < 0)]
  cases b with
  | false =>
    rw [if_pos rfl]
    clear hm hc hn h
    go_enter Try.func18, Try.ntmps18
    go_wp2
    go_ret3
    exact ⟨rfl, rfl⟩
  | true =>
    rw [if_neg (by decide)]
    obtain ⟨a', hsl, hb⟩ := h.back (i := 0) (by omega)
    have HI := hide (index_any (hb w h))
    have hlt := feedI_lt (l.drop 0)
    rw [List.length_drop, hn] at hlt
    obtain ⟨f, hf⟩ : ∃ f, feedI (l.drop 0) = f := ⟨_, rfl⟩
    rw [hf] at HI hlt ⊢
    simp only [Nat.sub_zero, Int.natCast_zero] at hsl HI
    by_cases h2 : f < 0
    · rw [if_pos h2]
      clear hm hc hn h hb hf hlt
      go_enter Try.func18, Try.ntmps18
      go_wp2_with (go_at_call 20; refine HI.out.mono ?_; rintro e w1 ⟨rfl, rfl⟩)
      go_ret3
      exact ⟨rfl, rfl⟩
    · rw [if_neg h2]
      have E1 := hide (show wrap64 f = f by unfold wrap64; omega)
      have E2 := hide (show wrap64 (f + 1) = f + 1 by unfold wrap64; omega)
      have E3 := hide (show ((0 : Nat) : Int) + f + 1 = f + 1 by omega)
      clear hm hc hn h hb hf hlt
      go_enter Try.func18, Try.ntmps18
      go_wp2_with (go_at_call 20; refine HI.out.mono ?_; rintro e w1 ⟨rfl, rfl⟩)
      go_ret3
      exact ⟨by first | (rw [E3.out]; rfl) | (rw [E3.out, E1.out, E2.out]; rfl) | (rw [E3.out, E2.out]; rfl), rfl⟩
theorem pass_any {w : World} {a : Option Addr} {len cap : Nat} {l : List UInt8} (h : Bu w a len cap l) (s : Int) (hs : s < 9223372036854775808) (b : Bool) :
    Calls Try.prog 18 #[.slice a len cap, .int .i64 s, .bool b] w fun e w' => e = .returned (passV (passN l s b)) ∧ w = w' := by
  by_cases h0 : s < 0
  · exact pass_low h s h0 b
  · obtain ⟨k, rfl⟩ := Int.eq_ofNat_of_zero_le (show 0 ≤ s by omega)
    exact pass_nat h k hs b
end Go.Proofs.Ytggaifkjmlhmlaa
