/- What bytes.Clone answers: bytes of its own. Conditions: at most 100000 bytes. Package bytes, as far as package frame calls it: IndexByte of a line feed, Equal, HasSuffix and TrimSuffix of one byte, Clone. Conditions: none of the program's variables is read; copies of at most 100000 bytes. What package frame's functions answer: Line, Body, Pass, Key and Keyed, as chapter 13 says. Conditions: none of the program's variables is read. -/
import Derived.Test.YthofdmepofepgaaDoorByteKit
import Derived.Test.YthofdmepofepgaaDoorG00Joined
import Derived.Lib.BytesEntry
namespace Go.Proofs.YthofdmepofepgaaDoor
set_option linter.unusedVariables false
open Go.RowKit

set_option maxRecDepth 100000 in
set_option maxHeartbeats 1000000 in
theorem bclone_any {w : World} {a : Option Addr} {n c : Nat} {l : List UInt8} (hl : n ≤ 100000) (h : Bu w a n c l) :
    Calls Tryd.prog 39 #[.slice a n c] w fun e w' => ∃ a' c', e = .returned (.slice a' n c') ∧ ValAt w.heap.size w' a' c' l ∧ w.grownBy w' none := by
  have hn := h.n
  cases a with
  | none =>
    obtain ⟨rfl, h0, rfl⟩ : n = 0 ∧ ints l = [] ∧ c = 0 := by
      rcases h.b with ⟨h1, h2, h3⟩ | ⟨b, off, r⟩
      · exact ⟨h1, h2, h3 rfl⟩
      · cases r.at_
    have hb : l = [] := List.eq_nil_of_length_eq_zero hn
    subst hb
    have hE := fun W => eql_nil none 0 0 W
    clear h
    go_enter Tryd.func39, Tryd.ntmps39
    go_wp2
    go_ret
    exact ⟨none, 0, rfl, World.ownsRow_nil _ _ _ _, gr_refl _ _⟩
  | some x =>
    have hE := fun W => eql_nil (some x) n c W
    have HB := hide (h.alloc (.cells #[] 5))
    clear h
    go_enter Tryd.func39, Tryd.ntmps39
    go_wp2_with (at_builtin; refine wpList_append_bs rfl _ _ rfl w.heap.size _ 0 [] rfl (owns_empty w) _ n c l rfl hn HB.out.b (by omega) (by simp) ?_; intro v' w' ho hg hk)
    rw [Nat.zero_add] at ho
    obtain ⟨a1, c1, rfl⟩ := own_shape ho
    go_ret
    refine ⟨a1, c1, rfl, ?_, gr_new (World.grownBy_alloc w _ none) hg (Nat.le_refl _)⟩
    unfold ValAt
    rw [hn]
    exact ho
theorem convU {w : World} {a : Option Addr} {len cap : Nat} {l : List UInt8} (h : Bu w a len cap l) : (convert 22 9 (.slice a len cap)).run Tryd.prog w = .ok (.string ⟨l.toArray⟩) w := by
  rw [conv_bs h.b, strOf_ints]
end Go.Proofs.YthofdmepofepgaaDoor

namespace Go.Proofs.YthofdmepofepgaaDoor
open Go.RowKit

theorem bytesOf_ints (l : List UInt8) : Lib.bytesOf (ints l) = l := by
  unfold Lib.bytesOf ints
  rw [List.map_map]
  conv => rhs; rw [← List.map_id l]
  apply List.map_congr_left
  intro c _
  simp
/-- The model's own search, at bytes that lie in memory. -/
theorem run_feed {w : World} {a : Option Addr} {len cap : Nat} {l : List UInt8} (h : Bu w a len cap l) : (Extern.BytealgIndexByte.indexByte #[.slice a len cap, .int .u8 10]).run Tryd.prog w = .ok (.int .i64 (feedI l)) w := by
  rcases h.b with ⟨rfl, h2, h3⟩ | ⟨b, off, r⟩
  · have hl : l = [] := List.eq_nil_of_length_eq_zero h.n
    subst hl
    cases a with
    | none => exact Lib.run_indexByteNil w 0 cap 10
    | some x =>
      have := Lib.run_indexByteNil (P := Tryd.prog) w 0 cap 10
      exact this
  · rw [r.at_]
    have := Lib.run_indexByteSlice (P := Tryd.prog) w b off len cap (ints l) (by rw [ints_len, h.n]) r.cell 10
    rw [bytesOf_ints] at this
    rw [this, ← feedI_lib]
    rfl
set_option maxRecDepth 100000 in
set_option maxHeartbeats 1000000 in
theorem index_any {w : World} {a : Option Addr} {len cap : Nat} {l : List UInt8} (h : Bu w a len cap l) :
    Calls Tryd.prog 27 #[.slice a len cap, .int .u8 10] w fun e w' => e = .returned (.int .i64 (feedI l)) ∧ w = w' := by
  have hr := run_feed h
  go_enter Tryd.func27, Tryd.ntmps27
  go_wp2
  rw [run_callFunc_extern Tryd.func36 (by kernel_rfl) (by kernel_rfl) (by kernel_rfl) (e := Extern.BytealgIndexByte.indexByte) (by kernel_rfl), hr]
  simp only [Result.andThen]
  rw [Oper.upon_value]
  go_wp2
  go_ret
  exact ⟨rfl, rfl⟩
set_option maxRecDepth 100000 in
set_option maxHeartbeats 1000000 in
theorem equal_any {w : World} {a b : Option Addr} {n c m d : Nat} {l k : List UInt8} (h : Bu w a n c l) (h2 : Bu w b m d k) :
    Calls Tryd.prog 47 #[.slice a n c, .slice b m d] w fun e w' => e = .returned (.bool (l == k)) ∧ w = w' := by
  have e1 := convU h
  have e2 := convU h2
  go_enter Tryd.func47, Tryd.ntmps47
  go_wp2
  go_ret
  exact ⟨rfl, rfl⟩
theorem back_one {l : List UInt8} (h : l ≠ []) : (l.drop (l.length - 1) == [13]) = (l.getLast? == some 13) := by
  obtain ⟨p, c, rfl⟩ : ∃ p c, l = p ++ [c] := ⟨l.dropLast, l.getLast h, (List.dropLast_concat_getLast h).symm⟩
  simp
set_option maxRecDepth 100000 in
set_option maxHeartbeats 1000000 in
theorem suffix_any {w : World} {a b : Option Addr} {n c d : Nat} {l : List UInt8} (h : Bu w a n c l) (h2 : Bu w b 1 d [13]) :
    Calls Tryd.prog 37 #[.slice a n c, .slice b 1 d] w fun e w' => e = .returned (.bool (l.getLast? == some 13)) ∧ w = w' := by
  by_cases h0 : n = 0
  · subst h0
    have hl : l = [] := List.eq_nil_of_length_eq_zero h.n
    subst hl
    go_enter Tryd.func37, Tryd.ntmps37
    go_wp2
    go_ret
    exact ⟨rfl, rfl⟩
  · have hn := h.n
    have hne : l ≠ [] := fun e => h0 (by rw [← hn, e]; rfl)
    obtain ⟨a', hs, hb⟩ := h.back (i := n - 1) (by omega)
    have H := hide (hb w h)
    have e1 : n - (n - 1) = 1 := by omega
    have e2 : ((n - 1 : Nat) : Int) = (n : Int) - 1 := by omega
    have e3 : wrap64 ((n : Int) - 1) = (n : Int) - 1 := by have := h.c; have := h.m; unfold maxLen at this; unfold wrap64; omega
    rw [e1] at hs H
    rw [e2] at hs
    have e4 : (1 : Int) ≤ (n : Int) := by omega
    have HQ := hide (back_one hne)
    rw [hn] at HQ
    obtain ⟨q, hq⟩ : ∃ q, (l.getLast? == some 13) = q := ⟨_, rfl⟩
    rw [hq] at HQ ⊢
    have HC : Hid (∀ W : World, Bu W a' 1 (c - (n - 1)) (l.drop (n - 1)) → Bu W b 1 d [13] → Calls Tryd.prog 47 #[.slice a' 1 (c - (n - 1)), .slice b 1 d] W fun e w' => e = .returned (.bool q) ∧ W = w') := fun W h5 h6 => by
      have := equal_any h5 h6
      rwa [HQ.out] at this
    have H2 := hide h2
    clear hq e1 e2 hn h hb
    go_enter Tryd.func37, Tryd.ntmps37
    go_wp2_with (go_at_call 47; refine (HC.out _ H.out H2.out).mono ?_; rintro e w1 ⟨rfl, rfl⟩)
    go_ret
    exact ⟨rfl, rfl⟩
theorem noCR_pos {l : List UInt8} (h : (l.getLast? == some 13) = true) : noCR l = l.dropLast := by unfold noCR; rw [if_pos (by simpa using h)]
theorem noCR_neg {l : List UInt8} (h : (l.getLast? == some 13) = false) : noCR l = l := by unfold noCR; rw [if_neg (by simpa using h)]
set_option maxRecDepth 100000 in
set_option maxHeartbeats 1000000 in
theorem trim_any {w : World} {a b : Option Addr} {n c d : Nat} {l : List UInt8} (h : Bu w a n c l) (h2 : Bu w b 1 d [13]) :
    Calls Tryd.prog 29 #[.slice a n c, .slice b 1 d] w fun e w' => e = .returned (.slice a (noCR l).length c) ∧ w = w' := by
  have HC := hide (suffix_any h h2)
  have hn := h.n
  cases hq : (l.getLast? == some 13) with
  | false =>
    rw [hq] at HC
    rw [noCR_neg hq, hn]
    clear hq
    go_enter Tryd.func29, Tryd.ntmps29
    go_wp2_with (go_at_call 37; refine HC.out.mono ?_; rintro e w1 ⟨rfl, rfl⟩)
    go_ret
    exact ⟨rfl, rfl⟩
  | true =>
    rw [hq] at HC
    have h1 : 1 ≤ n := by
      rw [← hn]
      cases l with
      | nil => cases hq
      | cons x y => simp
    obtain ⟨m, rfl⟩ : ∃ m, n = m + 1 := ⟨n - 1, by omega⟩
    rw [noCR_pos hq, List.length_dropLast, hn]
    have hc := h.c
    have hm := h.m
    have e3 : wrap64 (m : Int) = (m : Int) := by unfold maxLen at hm; unfold wrap64; omega
    have e4 : (m : Int) ≤ (c : Int) := by omega
    have e5 : m + 1 - 1 = m := rfl
    have hs : ∀ W : World, (Instr.sliceAt 22 (.slice a (m + 1) c) none (some (.int .i64 (m : Int))) none).run Tryd.prog W = .ok (.slice a m c) W := fun W => by cases a <;> go_simp
    rw [e5]
    clear hq h h2 e5 hn
    go_enter Tryd.func29, Tryd.ntmps29
    go_wp2_with (go_at_call 37; refine HC.out.mono ?_; rintro e w1 ⟨rfl, rfl⟩)
    go_ret
    exact ⟨rfl, rfl⟩
end Go.Proofs.YthofdmepofepgaaDoor

namespace Go.Proofs.YthofdmepofepgaaDoor
open Go.RowKit

theorem one_bu (w : World) (c : UInt8) : Bu (w.alloc (.cells #[.int .u8 (c.toNat : Int)] 5)) (some ⟨w.heap.size, 0, none⟩) 1 1 [c] := by
  have h := one_bs w (c.toNat : Int) (by omega) (by have := c.toNat_lt; omega)
  exact ⟨rfl, h, by decide, by decide⟩
/-- What Line tells. -/
def lineV (x : List UInt8 × Int × Int) : Value := .tuple #[.string ⟨x.1.toArray⟩, .int .i64 x.2.1, .int .i64 x.2.2]
set_option maxRecDepth 100000 in
set_option maxHeartbeats 1000000 in
theorem unended_any {w : World} {a : Option Addr} {len cap : Nat} {l : List UInt8} (h : Bu w a len cap l) (hf : (10 : UInt8) ∉ l) :
    Calls Tryd.prog 28 #[.slice a len cap] w fun e w' => e = .returned (lineV (lineN l)) ∧ w = w' := by
  rw [lineN_no hf, h.n]
  by_cases hl : 2049 < len
  · rw [if_pos hl]
    have hi : (2049 : Int) < (len : Int) := by omega
    go_enter Tryd.func28, Tryd.ntmps28
    go_wp2
    go_ret3
    exact ⟨rfl, rfl⟩
  · rw [if_neg hl]
    have hi : ¬ (2049 : Int) < (len : Int) := by omega
    go_enter Tryd.func28, Tryd.ntmps28
    go_wp2
    go_ret3
    exact ⟨rfl, rfl⟩
set_option maxRecDepth 100000 in
set_option maxHeartbeats 1000000 in
theorem line_any {w : World} {a : Option Addr} {len cap : Nat} {l : List UInt8} (h : Bu w a len cap l) :
    Calls Tryd.prog 17 #[.slice a len cap] w fun e w' => e = .returned (lineV (lineN l)) ∧ w.grownBy w' none := by
  have HI := hide (index_any h)
  rcases feeds l with hf | ⟨p, r, hl, hf⟩
  · rw [feedI_no hf] at HI
    have HU := hide (unended_any h hf)
    clear h
    generalize lineN l = x at *
    obtain ⟨x1, x2, x3⟩ := x
    simp only [lineV] at *
    go_enter Tryd.func17, Tryd.ntmps17
    go_wp2_with (first
      | (go_at_call 27; refine HI.out.mono ?_; rintro e w1 ⟨rfl, rfl⟩)
      | (go_at_call 28; refine HU.out.mono ?_; rintro e w1 ⟨rfl, rfl⟩))
    go_ret3
    exact ⟨rfl, gr_refl _ _⟩
  · have hn := h.n
    have hc := h.c
    have hm := h.m
    unfold maxLen at hm
    rw [hl, feedI_of hf] at HI
    rw [hl, lineN_of hf]
    obtain ⟨k, hk⟩ : ∃ k, p.length = k := ⟨_, rfl⟩
    have hkl : k + 1 ≤ len := by rw [← hn, hl, List.length_append, List.length_cons, hk]; omega
    have hp : l.take k = p := by rw [hl, ← hk, List.take_left]
    have hF := h.front (j := k) (c := k) (by omega) (Nat.le_refl _) (by omega)
    rw [hp] at hF
    have hnl := noCR_len p
    obtain ⟨q, hq⟩ : ∃ q, (noCR p).length = q := ⟨_, rfl⟩
    have hG := hF.front (j := q) (c := k) (by omega) (by omega) (Nat.le_refl _)
    have hpq : p.take q = noCR p := by rw [← hq]; exact (noCR_take p).symm
    rw [hpq] at hG
    have HT := hide (trim_any (hF.alloc (.cells #[.int .u8 13] 5)) (one_bu w 13))
    rw [hq] at HT ⊢
    rw [hk] at HI ⊢
    have hcv := convU (hG.alloc (.cells #[.int .u8 13] 5))
    have hs : ∀ W : World, (Instr.sliceAt 22 (.slice a len cap) none (some (.int .i64 (k : Int))) (some (.int .i64 (k : Int)))).run Tryd.prog W = .ok (.slice a k k) W := fun W => by
      have h1 : (k : Int) ≤ (cap : Int) := by omega
      cases a <;> go_simp
    have i1 : wrap64 ((k : Int) + 1) = (k : Int) + 1 := by unfold wrap64; omega
    have HG := hide (World.grownBy_alloc w (.cells #[.int .u8 13] 5) none)
    by_cases hlong : 2048 < q
    · rw [if_pos hlong]
      have i2 : (2048 : Int) < (q : Int) := by omega
      clear hG hF h hl hpq hp hnl hn hq hk hlong hkl hc hm
      go_enter Tryd.func17, Tryd.ntmps17
      go_wp2_with (first
        | (go_at_call 27; refine HI.out.mono ?_; rintro e w1 ⟨rfl, rfl⟩)
        | (go_at_call 29; refine HT.out.mono ?_; rintro e w1 ⟨rfl, rfl⟩))
      go_ret3
      exact ⟨by rw [i1]; rfl, HG.out⟩
    · rw [if_neg hlong]
      have i2 : ¬ (2048 : Int) < (q : Int) := by omega
      clear hG hF h hl hpq hp hnl hn hq hk hlong hkl hc hm
      go_enter Tryd.func17, Tryd.ntmps17
      go_wp2_with (first
        | (go_at_call 27; refine HI.out.mono ?_; rintro e w1 ⟨rfl, rfl⟩)
        | (go_at_call 29; refine HT.out.mono ?_; rintro e w1 ⟨rfl, rfl⟩))
      go_ret3
      exact ⟨by rw [i1]; rfl, HG.out⟩
/-- What Body tells. -/
def BodyEnd (x : List UInt8 × Int × Int) (w w' : World) (e : Ending) : Prop := ∃ a c, e = .returned (.tuple #[.slice a x.1.length c, .int .i64 x.2.1, .int .i64 x.2.2]) ∧ ValAt w.heap.size w' a c x.1 ∧ w.grownBy w' none
theorem val_nil (w : World) (n : Nat) : ValAt n w none 0 [] := World.ownsRow_nil _ _ _ _
set_option maxRecDepth 100000 in
set_option maxHeartbeats 1000000 in
theorem body_any {w : World} {a : Option Addr} {len cap : Nat} {l : List UInt8} (h : Bu w a len cap l) (n : Int) (hn : -9223372036854775808 ≤ n ∧ n < 9223372036854775808) :
    Calls Tryd.prog 31 #[.slice a len cap, .int .i64 n] w fun e w' => BodyEnd (bodyN l n) w w' e := by
  have hl := h.n
  unfold bodyN
  rw [hl]
  by_cases h1 : n < 0
  · rw [if_pos (.inl h1)]
    clear hn
    go_enter Tryd.func31, Tryd.ntmps31
    go_wp2
    go_ret3
    exact ⟨none, 0, rfl, val_nil _ _, gr_refl _ _⟩
  · by_cases h2 : 1000 < n
    · rw [if_pos (.inr h2)]
      clear hn
      go_enter Tryd.func31, Tryd.ntmps31
      go_wp2
      go_ret3
      exact ⟨none, 0, rfl, val_nil _ _, gr_refl _ _⟩
    · rw [if_neg (by omega)]
      obtain ⟨k, rfl⟩ := Int.eq_ofNat_of_zero_le (show 0 ≤ n by omega)
      have e1 : wrap64 ((k : Int) + 2) = (k : Int) + 2 := by unfold wrap64; omega
      have k0 : ¬ (1000 : Int) < (k : Int) := h2
      by_cases h3 : (len : Int) < (k : Int) + 2
      · rw [if_pos h3]
        clear hn h1 h2
        go_enter Tryd.func31, Tryd.ntmps31
        go_wp2
        go_ret3
        exact ⟨none, 0, rfl, val_nil _ _, gr_refl _ _⟩
      · rw [if_neg h3, Int.toNat_natCast]
        have hc := h.c
        have hm := h.m
        obtain ⟨a', hs, hb⟩ := h.mid (i := k) (j := k + 2) (m := 2) rfl (by decide) (by omega) ((k : Int) + 2) (by omega)
        have hcv := convU hb
        have hF := h.front (j := k) (c := k) (by omega) (Nat.le_refl _) (by omega)
        have HC := hide (bclone_any (by omega) hF)
        have hs2 : ∀ W : World, (Instr.sliceAt 22 (.slice a len cap) none (some (.int .i64 (k : Int))) (some (.int .i64 (k : Int)))).run Tryd.prog W = .ok (.slice a k k) W := fun W => by
          have h1 : (k : Int) ≤ (cap : Int) := by omega
          cases a <;> go_simp
        have hk : k ≤ 1000 := by omega
        have HL : Hid ((l.take k).length = k) := by show (l.take k).length = k; rw [List.length_take, hl]; omega
        by_cases hq : (l.drop k).take 2 = [13, 10]
        · rw [if_pos hq]
          rw [hq] at hcv
          clear hn h1 h2 hF hb hc hm hl hq h
          go_enter Tryd.func31, Tryd.ntmps31
          go_wp2_with (go_at_call 39; refine HC.out.mono ?_; rintro e w1 ⟨a1, c1, rfl, hv, hg⟩)
          go_ret3
          refine ⟨a1, c1, ?_, hv, hg⟩
          rw [HL.out]
          rfl
        · rw [if_neg hq]
          have hqb : ((l.drop k).take 2 == [13, 10]) = false := by simpa using hq
          generalize (l.drop k).take 2 = y at *
          clear hn h1 h2 hF hb hc hm hl h hq
          go_enter Tryd.func31, Tryd.ntmps31
          go_wp2_with (go_at_call 39; refine HC.out.mono ?_; rintro e w1 ⟨a1, c1, rfl, hv, hg⟩)
          go_ret3
          exact ⟨none, 0, rfl, val_nil _ _, gr_refl _ _⟩
end Go.Proofs.YthofdmepofepgaaDoor
