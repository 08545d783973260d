/- What package frame's functions answer: Line, Body, Pass, Key and Keyed, as chapter 13 says. Conditions: none of the program's variables is read. -/
import Derived.Test.YthofdmepofepgaaDoorG07Joined
namespace Go.Proofs.YthofdmepofepgaaDoor
open Go.RowKit

theorem one_bu (w : World) (c : UInt8) : Bu (w.alloc (.cells #[.int .u8 (c.toNat : Int)] 5)) (some ⟨w.heap.size, 0, none⟩) 1 1 [c] := by
  have h := one_bs w (c.toNat : Int) (by omega) (by have := c.toNat_lt; omega)
  exact ⟨rfl, h, by decide, by decide⟩
/-- What Line tells. -/
def lineV (x : List UInt8 × Int × Int) : Value := .tuple #[.string ⟨x.1.toArray⟩, .int .i64 x.2.1, .int .i64 x.2.2]
set_option maxRecDepth 100000 in
set_option maxHeartbeats 1000000 in
theorem unended_any {w : World} {a : Option Addr} {len cap : Nat} {l : List UInt8} (h : Bu w a len cap l) (hf : (10 : UInt8) ∉ l) :
    Calls Tryd.prog 28 #[.slice a len cap] w fun e w' => e = .returned (lineV (lineN l)) ∧ w = w' := by
  rw [lineN_no hf, h.n]
  by_cases hl : 2049 < len
  · rw [if_pos hl]
    have hi : (2049 : Int) < (len : Int) := by omega
    go_enter Tryd.func28, Tryd.ntmps28
    go_wp2
    go_ret3
    exact ⟨rfl, rfl⟩
  · rw [if_neg hl]
    have hi : ¬ (2049 : Int) < (len : Int) := by omega
    go_enter Tryd.func28, Tryd.ntmps28
    go_wp2
    go_ret3
    exact ⟨rfl, rfl⟩
set_option maxRecDepth 100000 in
set_option maxHeartbeats 1000000 in
theorem line_any {w : World} {a : Option Addr} {len cap : Nat} {l : List UInt8} (h : Bu w a len cap l) :
    Calls Tryd.prog 17 #[.slice a len cap] w fun e w' => e = .returned (lineV (lineN l)) ∧ w.grownBy w' none := by
  have HI := hide (index_any h)
  rcases feeds l with hf | ⟨p, r, hl, hf⟩
  · rw [feedI_no hf] at HI
    have HU := hide (unended_any h hf)
    clear h
    generalize lineN l = x at *
    obtain ⟨x1, x2, x3⟩ := x
    simp only [lineV] at *
    go_enter Tryd.func17, Tryd.ntmps17
    go_wp2_with (first
      | (go_at_call 27; refine HI.out.mono ?_; rintro e w1 ⟨rfl, rfl⟩)
      | (go_at_call 28; refine HU.out.mono ?_; rintro e w1 ⟨rfl, rfl⟩))
    go_ret3
    exact ⟨rfl, gr_refl _ _⟩
  · have hn := h.n
    have hc := h.c
    have hm := h.m
    unfold maxLen at hm
    rw [hl, feedI_of hf] at HI
    rw [hl, lineN_of hf]
    obtain ⟨k, hk⟩ : ∃ k, p.length = k := ⟨_, rfl⟩
    have hkl : k + 1 ≤ len := by rw [← hn, hl, List.length_append, List.length_cons, hk]; omega
    have hp : l.take k = p := by rw [hl, ← hk, List.take_left]
    have hF := h.front (j := k) (c := k) (by omega) (Nat.le_refl _) (by omega)
    rw [hp] at hF
    have hnl := noCR_len p
    obtain ⟨q, hq⟩ : ∃ q, (noCR p).length = q := ⟨_, rfl⟩
    have hG := hF.front (j := q) (c := k) (by omega) (by omega) (Nat.le_refl _)
    have hpq : p.take q = noCR p := by rw [← hq]; exact (noCR_take p).symm
    rw [hpq] at hG
    have HT := hide (trim_any (hF.alloc (.cells #[.int .u8 13] 5)) (one_bu w 13))
    rw [hq] at HT ⊢
    rw [hk] at HI ⊢
    have hcv := convU (hG.alloc (.cells #[.int .u8 13] 5))
    have hs : ∀ W : World, (Instr.sliceAt 22 (.slice a len cap) none (some (.int .i64 (k : Int))) (some (.int .i64 (k : Int)))).run Tryd.prog W = .ok (.slice a k k) W := fun W => by
      have h1 : (k : Int) ≤ (cap : Int) := by omega
      cases a <;> go_simp
    have i1 : wrap64 ((k : Int) + 1) = (k : Int) + 1 := by unfold wrap64; omega
    have HG := hide (World.grownBy_alloc w (.cells #[.int .u8 13] 5) none)
    by_cases hlong : 2048 < q
    · rw [if_pos hlong]
      have i2 : (2048 : Int) < (q : Int) := by omega
      clear hG hF h hl hpq hp hnl hn hq hk hlong hkl hc hm
      go_enter Tryd.func17, Tryd.ntmps17
      go_wp2_with (first
        | (go_at_call 27; refine HI.out.mono ?_; rintro e w1 ⟨rfl, rfl⟩)
        | (go_at_call 29; refine HT.out.mono ?_; rintro e w1 ⟨rfl, rfl⟩))
      go_ret3
      exact ⟨by rw [i1]; rfl, HG.out⟩
    · rw [if_neg hlong]
      have i2 : ¬ (2048 : Int) < (q : Int) := by omega
      clear hG hF h hl hpq hp hnl hn hq hk hlong hkl hc hm
      go_enter Tryd.func17, Tryd.ntmps17
      go_wp2_with (first
        | (go_at_call 27; refine HI.out.mono ?_; rintro e w1 ⟨rfl, rfl⟩)
        | (go_at_call 29; refine HT.out.mono ?_; rintro e w1 ⟨rfl, rfl⟩))
      go_ret3
      exact ⟨by rw [i1]; rfl, HG.out⟩
/-- What Body tells. -/
def BodyEnd (x : List UInt8 × Int × Int) (w w' : World) (e : Ending) : Prop := ∃ a c, e = .returned (.tuple #[.slice a x.1.length c, .int .i64 x.2.1, .int .i64 x.2.2]) ∧ ValAt w.heap.size w' a c x.1 ∧ w.grownBy w' none
theorem val_nil (w : World) (n : Nat) : ValAt n w none 0 [] := World.ownsRow_nil _ _ _ _
set_option maxRecDepth 100000 in
set_option maxHeartbeats 1000000 in
theorem body_any {w : World} {a : Option Addr} {len cap : Nat} {l : List UInt8} (h : Bu w a len cap l) (n : Int) (hn : -9223372036854775808 ≤ n ∧ n < 9223372036854775808) :
    Calls Tryd.prog 31 #[.slice a len cap, .int .i64 n] w fun e w' => BodyEnd (bodyN l n) w w' e := by
  have hl := h.n
  unfold bodyN
  rw [hl]
  by_cases h1 : n < 0
  · rw [if_pos (.inl h1)]
    clear hn
    go_enter Tryd.func31, Tryd.ntmps31
    go_wp2
    go_ret3
    exact ⟨none, 0, rfl, val_nil _ _, gr_refl _ _⟩
  · by_cases h2 : 1000 < n
    · rw [if_pos (.inr h2)]
      clear hn
      go_enter Tryd.func31, Tryd.ntmps31
      go_wp2
      go_ret3
      exact ⟨none, 0, rfl, val_nil _ _, gr_refl _ _⟩
    · rw [if_neg (by omega)]
      obtain ⟨k, rfl⟩ := Int.eq_ofNat_of_zero_le (show 0 ≤ n by omega)
      have e1 : wrap64 ((k : Int) + 2) = (k : Int) + 2 := by unfold wrap64; omega
      have k0 : ¬ (1000 : Int) < (k : Int) := h2
      by_cases h3 : (len : Int) < (k : Int) + 2
      · rw [if_pos h3]
        clear hn h1 h2
        go_enter Tryd.func31, Tryd.ntmps31
        go_wp2
        go_ret3
        exact ⟨none, 0, rfl, val_nil _ _, gr_refl _ _⟩
      · rw [if_neg h3, Int.toNat_natCast]
        have hc := h.c
        have hm := h.m
        obtain ⟨a', hs, hb⟩ := h.mid (i := k) (j := k + 2) (m := 2) rfl (by decide) (by omega) ((k : Int) + 2) (by omega)
        have hcv := convU hb
        have hF := h.front (j := k) (c := k) (by omega) (Nat.le_refl _) (by omega)
        have HC := hide (bclone_any (by omega) hF)
        have hs2 : ∀ W : World, (Instr.sliceAt 22 (.slice a len cap) none (some (.int .i64 (k : Int))) (some (.int .i64 (k : Int)))).run Tryd.prog W = .ok (.slice a k k) W := fun W => by
          have h1 : (k : Int) ≤ (cap : Int) := by omega
          cases a <;> go_simp
        have hk : k ≤ 1000 := by omega
        have HL : Hid ((l.take k).length = k) := by show (l.take k).length = k; rw [List.length_take, hl]; omega
        by_cases hq : (l.drop k).take 2 = [13, 10]
        · rw [if_pos hq]
          rw [hq] at hcv
          clear hn h1 h2 hF hb hc hm hl hq h
          go_enter Tryd.func31, Tryd.ntmps31
          go_wp2_with (go_at_call 39; refine HC.out.mono ?_; rintro e w1 ⟨a1, c1, rfl, hv, hg⟩)
          go_ret3
          refine ⟨a1, c1, ?_, hv, hg⟩
          rw [HL.out]
          rfl
        · rw [if_neg hq]
          have hqb : ((l.drop k).take 2 == [13, 10]) = false := by simpa using hq
          generalize (l.drop k).take 2 = y at *
          clear hn h1 h2 hF hb hc hm hl h hq
          go_enter Tryd.func31, Tryd.ntmps31
          go_wp2_with (go_at_call 39; refine HC.out.mono ?_; rintro e w1 ⟨a1, c1, rfl, hv, hg⟩)
          go_ret3
          exact ⟨none, 0, rfl, val_nil _ _, gr_refl _ _⟩
end Go.Proofs.YthofdmepofepgaaDoor
