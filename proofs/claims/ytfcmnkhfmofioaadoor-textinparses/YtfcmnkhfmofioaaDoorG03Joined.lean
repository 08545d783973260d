/- What bytes.Clone answers: bytes of its own. Conditions: at most 100000 bytes. Package bytes, as far as package frame calls it: IndexByte of a line feed, Equal, HasSuffix and TrimSuffix of one byte, Clone. Conditions: none of the program's variables is read; copies of at most 100000 bytes. What package frame's functions answer: Line, Body, Pass, Key and Keyed, as chapter 13 says. Conditions: none of the program's variables is read. Which verb a word is, as package textin tells it. Conditions: none. Memory in parts, as a function of the program that has blocks of its own sees it: what it writes was its own or is new. Conditions: none. -/
import Derived.Test.YtfcmnkhfmofioaaDoorG02Joined
import Derived.Test.YtfcmnkhfmofioaaDoorG00Joined
import Derived.Lib.BytesEntry
namespace Go.Proofs.YtfcmnkhfmofioaaDoor
set_option linter.unusedVariables false
open Go.RowKit

set_option maxRecDepth 100000 in
set_option maxHeartbeats 1000000 in
theorem bclone_any {w : World} {a : Option Addr} {n c : Nat} {l : List UInt8} (hl : n ≤ 100000) (h : Bu w a n c l) :
    Calls Tryd.prog 52 #[.slice a n c] w fun e w' => ∃ a' c', e = .returned (.slice a' n c') ∧ ValAt w.heap.size w' a' c' l ∧ w.grownBy w' none := by
  have hn := h.n
  cases a with
  | none =>
    obtain ⟨rfl, h0, rfl⟩ : n = 0 ∧ ints l = [] ∧ c = 0 := by
      rcases h.b with ⟨h1, h2, h3⟩ | ⟨b, off, r⟩
      · exact ⟨h1, h2, h3 rfl⟩
      · cases r.at_
    have hb : l = [] := List.eq_nil_of_length_eq_zero hn
    subst hb
    have hE := fun W => eql_nil none 0 0 W
    clear h
    go_enter Tryd.func52, Tryd.ntmps52
    go_wp2
    go_ret
    exact ⟨none, 0, rfl, World.ownsRow_nil _ _ _ _, gr_refl _ _⟩
  | some x =>
    have hE := fun W => eql_nil (some x) n c W
    have HB := hide (h.alloc (.cells #[] 5))
    clear h
    go_enter Tryd.func52, Tryd.ntmps52
    go_wp2_with (at_builtin; refine wpList_append_bs rfl _ _ rfl w.heap.size _ 0 [] rfl (owns_empty w) _ n c l rfl hn HB.out.b (by omega) (by simp) ?_; intro v' w' ho hg hk)
    rw [Nat.zero_add] at ho
    obtain ⟨a1, c1, rfl⟩ := own_shape ho
    go_ret
    refine ⟨a1, c1, rfl, ?_, gr_new (World.grownBy_alloc w _ none) hg (Nat.le_refl _)⟩
    unfold ValAt
    rw [hn]
    exact ho
theorem convU {w : World} {a : Option Addr} {len cap : Nat} {l : List UInt8} (h : Bu w a len cap l) : (convert 22 9 (.slice a len cap)).run Tryd.prog w = .ok (.string ⟨l.toArray⟩) w := by
  rw [conv_bs h.b, strOf_ints]
end Go.Proofs.YtfcmnkhfmofioaaDoor

namespace Go.Proofs.YtfcmnkhfmofioaaDoor
open Go.RowKit

theorem bytesOf_ints (l : List UInt8) : Lib.bytesOf (ints l) = l := by
  unfold Lib.bytesOf ints
  rw [List.map_map]
  conv => rhs; rw [← List.map_id l]
  apply List.map_congr_left
  intro c _
  simp
/-- The model's own search, at bytes that lie in memory. -/
theorem run_feed {w : World} {a : Option Addr} {len cap : Nat} {l : List UInt8} (h : Bu w a len cap l) : (Extern.BytealgIndexByte.indexByte #[.slice a len cap, .int .u8 10]).run Tryd.prog w = .ok (.int .i64 (feedI l)) w := by
  rcases h.b with ⟨rfl, h2, h3⟩ | ⟨b, off, r⟩
  · have hl : l = [] := List.eq_nil_of_length_eq_zero h.n
    subst hl
    cases a with
    | none => exact Lib.run_indexByteNil w 0 cap 10
    | some x =>
      have := Lib.run_indexByteNil (P := Tryd.prog) w 0 cap 10
      exact this
  · rw [r.at_]
    have := Lib.run_indexByteSlice (P := Tryd.prog) w b off len cap (ints l) (by rw [ints_len, h.n]) r.cell 10
    rw [bytesOf_ints] at this
    rw [this, ← feedI_lib]
    rfl
set_option maxRecDepth 100000 in
set_option maxHeartbeats 1000000 in
theorem index_any {w : World} {a : Option Addr} {len cap : Nat} {l : List UInt8} (h : Bu w a len cap l) :
    Calls Tryd.prog 40 #[.slice a len cap, .int .u8 10] w fun e w' => e = .returned (.int .i64 (feedI l)) ∧ w = w' := by
  have hr := run_feed h
  go_enter Tryd.func40, Tryd.ntmps40
  go_wp2
  rw [run_callFunc_extern Tryd.func49 (by kernel_rfl) (by kernel_rfl) (by kernel_rfl) (e := Extern.BytealgIndexByte.indexByte) (by kernel_rfl), hr]
  simp only [Result.andThen]
  rw [Oper.upon_value]
  go_wp2
  go_ret
  exact ⟨rfl, rfl⟩
set_option maxRecDepth 100000 in
set_option maxHeartbeats 1000000 in
theorem equal_any {w : World} {a b : Option Addr} {n c m d : Nat} {l k : List UInt8} (h : Bu w a n c l) (h2 : Bu w b m d k) :
    Calls Tryd.prog 60 #[.slice a n c, .slice b m d] w fun e w' => e = .returned (.bool (l == k)) ∧ w = w' := by
  have e1 := convU h
  have e2 := convU h2
  go_enter Tryd.func60, Tryd.ntmps60
  go_wp2
  go_ret
  exact ⟨rfl, rfl⟩
theorem back_one {l : List UInt8} (h : l ≠ []) : (l.drop (l.length - 1) == [13]) = (l.getLast? == some 13) := by
  obtain ⟨p, c, rfl⟩ : ∃ p c, l = p ++ [c] := ⟨l.dropLast, l.getLast h, (List.dropLast_concat_getLast h).symm⟩
  simp
set_option maxRecDepth 100000 in
set_option maxHeartbeats 1000000 in
theorem suffix_any {w : World} {a b : Option Addr} {n c d : Nat} {l : List UInt8} (h : Bu w a n c l) (h2 : Bu w b 1 d [13]) :
    Calls Tryd.prog 50 #[.slice a n c, .slice b 1 d] w fun e w' => e = .returned (.bool (l.getLast? == some 13)) ∧ w = w' := by
  by_cases h0 : n = 0
  · subst h0
    have hl : l = [] := List.eq_nil_of_length_eq_zero h.n
    subst hl
    go_enter Tryd.func50, Tryd.ntmps50
    go_wp2
    go_ret
    exact ⟨rfl, rfl⟩
  · have hn := h.n
    have hne : l ≠ [] := fun e => h0 (by rw [← hn, e]; rfl)
    obtain ⟨a', hs, hb⟩ := h.back (i := n - 1) (by omega)
    have H := hide (hb w h)
    have e1 : n - (n - 1) = 1 := by omega
    have e2 : ((n - 1 : Nat) : Int) = (n : Int) - 1 := by omega
    have e3 : wrap64 ((n : Int) - 1) = (n : Int) - 1 := by have := h.c; have := h.m; unfold maxLen at this; unfold wrap64; omega
    rw [e1] at hs H
    rw [e2] at hs
    have e4 : (1 : Int) ≤ (n : Int) := by omega
    have HQ := hide (back_one hne)
    rw [hn] at HQ
    obtain ⟨q, hq⟩ : ∃ q, (l.getLast? == some 13) = q := ⟨_, rfl⟩
    rw [hq] at HQ ⊢
    have HC : Hid (∀ W : World, Bu W a' 1 (c - (n - 1)) (l.drop (n - 1)) → Bu W b 1 d [13] → Calls Tryd.prog 60 #[.slice a' 1 (c - (n - 1)), .slice b 1 d] W fun e w' => e = .returned (.bool q) ∧ W = w') := fun W h5 h6 => by
      have := equal_any h5 h6
      rwa [HQ.out] at this
    have H2 := hide h2
    clear hq e1 e2 hn h hb
    go_enter Tryd.func50, Tryd.ntmps50
    go_wp2_with (go_at_call 60; refine (HC.out _ H.out H2.out).mono ?_; rintro e w1 ⟨rfl, rfl⟩)
    go_ret
    exact ⟨rfl, rfl⟩
theorem noCR_pos {l : List UInt8} (h : (l.getLast? == some 13) = true) : noCR l = l.dropLast := by unfold noCR; rw [if_pos (by simpa using h)]
theorem noCR_neg {l : List UInt8} (h : (l.getLast? == some 13) = false) : noCR l = l := by unfold noCR; rw [if_neg (by simpa using h)]
set_option maxRecDepth 100000 in
set_option maxHeartbeats 1000000 in
theorem trim_any {w : World} {a b : Option Addr} {n c d : Nat} {l : List UInt8} (h : Bu w a n c l) (h2 : Bu w b 1 d [13]) :
    Calls Tryd.prog 42 #[.slice a n c, .slice b 1 d] w fun e w' => e = .returned (.slice a (noCR l).length c) ∧ w = w' := by
  have HC := hide (suffix_any h h2)
  have hn := h.n
  cases hq : (l.getLast? == some 13) with
  | false =>
    rw [hq] at HC
    rw [noCR_neg hq, hn]
    clear hq
    go_enter Tryd.func42, Tryd.ntmps42
    go_wp2_with (go_at_call 50; refine HC.out.mono ?_; rintro e w1 ⟨rfl, rfl⟩)
    go_ret
    exact ⟨rfl, rfl⟩
  | true =>
    rw [hq] at HC
    have h1 : 1 ≤ n := by
      rw [← hn]
      cases l with
      | nil => cases hq
      | cons x y => simp
    obtain ⟨m, rfl⟩ : ∃ m, n = m + 1 := ⟨n - 1, by omega⟩
    rw [noCR_pos hq, List.length_dropLast, hn]
    have hc := h.c
    have hm := h.m
    have e3 : wrap64 (m : Int) = (m : Int) := by unfold maxLen at hm; unfold wrap64; omega
    have e4 : (m : Int) ≤ (c : Int) := by omega
    have e5 : m + 1 - 1 = m := rfl
    have hs : ∀ W : World, (Instr.sliceAt 22 (.slice a (m + 1) c) none (some (.int .i64 (m : Int))) none).run Tryd.prog W = .ok (.slice a m c) W := fun W => by cases a <;> go_simp
    rw [e5]
    clear hq h h2 e5 hn
    go_enter Tryd.func42, Tryd.ntmps42
    go_wp2_with (go_at_call 50; refine HC.out.mono ?_; rintro e w1 ⟨rfl, rfl⟩)
    go_ret
    exact ⟨rfl, rfl⟩
end Go.Proofs.YtfcmnkhfmofioaaDoor

namespace Go.Proofs.YtfcmnkhfmofioaaDoor
open Go.RowKit

theorem one_bu (w : World) (c : UInt8) : Bu (w.alloc (.cells #[.int .u8 (c.toNat : Int)] 5)) (some ⟨w.heap.size, 0, none⟩) 1 1 [c] := by
  have h := one_bs w (c.toNat : Int) (by omega) (by have := c.toNat_lt; omega)
  exact ⟨rfl, h, by decide, by decide⟩
/-- What Line tells. -/
def lineV (x : List UInt8 × Int × Int) : Value := .tuple #[.string ⟨x.1.toArray⟩, .int .i64 x.2.1, .int .i64 x.2.2]
set_option maxRecDepth 100000 in
set_option maxHeartbeats 1000000 in
theorem unended_any {w : World} {a : Option Addr} {len cap : Nat} {l : List UInt8} (h : Bu w a len cap l) (hf : (10 : UInt8) ∉ l) :
    Calls Tryd.prog 41 #[.slice a len cap] w fun e w' => e = .returned (lineV (lineN l)) ∧ w = w' := by
  rw [lineN_no hf, h.n]
  by_cases hl : 2049 < len
  · rw [if_pos hl]
    have hi : (2049 : Int) < (len : Int) := by omega
    go_enter Tryd.func41, Tryd.ntmps41
    go_wp2
    go_ret3
    exact ⟨rfl, rfl⟩
  · rw [if_neg hl]
    have hi : ¬ (2049 : Int) < (len : Int) := by omega
    go_enter Tryd.func41, Tryd.ntmps41
    go_wp2
    go_ret3
    exact ⟨rfl, rfl⟩
set_option maxRecDepth 100000 in
set_option maxHeartbeats 1000000 in
theorem line_any {w : World} {a : Option Addr} {len cap : Nat} {l : List UInt8} (h : Bu w a len cap l) :
    Calls Tryd.prog 24 #[.slice a len cap] w fun e w' => e = .returned (lineV (lineN l)) ∧ w.grownBy w' none := by
  have HI := hide (index_any h)
  rcases feeds l with hf | ⟨p, r, hl, hf⟩
  · rw [feedI_no hf] at HI
    have HU := hide (unended_any h hf)
    clear h
    generalize lineN l = x at *
    obtain ⟨x1, x2, x3⟩ := x
    simp only [lineV] at *
    go_enter Tryd.func24, Tryd.ntmps24
    go_wp2_with (first
      | (go_at_call 40; refine HI.out.mono ?_; rintro e w1 ⟨rfl, rfl⟩)
      | (go_at_call 41; refine HU.out.mono ?_; rintro e w1 ⟨rfl, rfl⟩))
    go_ret3
    exact ⟨rfl, gr_refl _ _⟩
  · have hn := h.n
    have hc := h.c
    have hm := h.m
    unfold maxLen at hm
    rw [hl, feedI_of hf] at HI
    rw [hl, lineN_of hf]
    obtain ⟨k, hk⟩ : ∃ k, p.length = k := ⟨_, rfl⟩
    have hkl : k + 1 ≤ len := by rw [← hn, hl, List.length_append, List.length_cons, hk]; omega
    have hp : l.take k = p := by rw [hl, ← hk, List.take_left]
    have hF := h.front (j := k) (c := k) (by omega) (Nat.le_refl _) (by omega)
    rw [hp] at hF
    have hnl := noCR_len p
    obtain ⟨q, hq⟩ : ∃ q, (noCR p).length = q := ⟨_, rfl⟩
    have hG := hF.front (j := q) (c := k) (by omega) (by omega) (Nat.le_refl _)
    have hpq : p.take q = noCR p := by rw [← hq]; exact (noCR_take p).symm
    rw [hpq] at hG
    have HT := hide (trim_any (hF.alloc (.cells #[.int .u8 13] 5)) (one_bu w 13))
    rw [hq] at HT ⊢
    rw [hk] at HI ⊢
    have hcv := convU (hG.alloc (.cells #[.int .u8 13] 5))
    have hs : ∀ W : World, (Instr.sliceAt 22 (.slice a len cap) none (some (.int .i64 (k : Int))) (some (.int .i64 (k : Int)))).run Tryd.prog W = .ok (.slice a k k) W := fun W => by
      have h1 : (k : Int) ≤ (cap : Int) := by omega
      cases a <;> go_simp
    have i1 : wrap64 ((k : Int) + 1) = (k : Int) + 1 := by unfold wrap64; omega
    have HG := hide (World.grownBy_alloc w (.cells #[.int .u8 13] 5) none)
    by_cases hlong : 2048 < q
    · rw [if_pos hlong]
      have i2 : (2048 : Int) < (q : Int) := by omega
      clear hG hF h hl hpq hp hnl hn hq hk hlong hkl hc hm
      go_enter Tryd.func24, Tryd.ntmps24
      go_wp2_with (first
        | (go_at_call 40; refine HI.out.mono ?_; rintro e w1 ⟨rfl, rfl⟩)
        | (go_at_call 42; refine HT.out.mono ?_; rintro e w1 ⟨rfl, rfl⟩))
      go_ret3
      exact ⟨by rw [i1]; rfl, HG.out⟩
    · rw [if_neg hlong]
      have i2 : ¬ (2048 : Int) < (q : Int) := by omega
      clear hG hF h hl hpq hp hnl hn hq hk hlong hkl hc hm
      go_enter Tryd.func24, Tryd.ntmps24
      go_wp2_with (first
        | (go_at_call 40; refine HI.out.mono ?_; rintro e w1 ⟨rfl, rfl⟩)
        | (go_at_call 42; refine HT.out.mono ?_; rintro e w1 ⟨rfl, rfl⟩))
      go_ret3
      exact ⟨by rw [i1]; rfl, HG.out⟩
/-- What Body tells. -/
def BodyEnd (x : List UInt8 × Int × Int) (w w' : World) (e : Ending) : Prop := ∃ a c, e = .returned (.tuple #[.slice a x.1.length c, .int .i64 x.2.1, .int .i64 x.2.2]) ∧ ValAt w.heap.size w' a c x.1 ∧ w.grownBy w' none
theorem val_nil (w : World) (n : Nat) : ValAt n w none 0 [] := World.ownsRow_nil _ _ _ _
set_option maxRecDepth 100000 in
set_option maxHeartbeats 1000000 in
theorem body_any {w : World} {a : Option Addr} {len cap : Nat} {l : List UInt8} (h : Bu w a len cap l) (n : Int) (hn : -9223372036854775808 ≤ n ∧ n < 9223372036854775808) :
    Calls Tryd.prog 44 #[.slice a len cap, .int .i64 n] w fun e w' => BodyEnd (bodyN l n) w w' e := by
  have hl := h.n
  unfold bodyN
  rw [hl]
  by_cases h1 : n < 0
  · rw [if_pos (.inl h1)]
    clear hn
    go_enter Tryd.func44, Tryd.ntmps44
    go_wp2
    go_ret3
    exact ⟨none, 0, rfl, val_nil _ _, gr_refl _ _⟩
  · by_cases h2 : 1000 < n
    · rw [if_pos (.inr h2)]
      clear hn
      go_enter Tryd.func44, Tryd.ntmps44
      go_wp2
      go_ret3
      exact ⟨none, 0, rfl, val_nil _ _, gr_refl _ _⟩
    · rw [if_neg (by omega)]
      obtain ⟨k, rfl⟩ := Int.eq_ofNat_of_zero_le (show 0 ≤ n by omega)
      have e1 : wrap64 ((k : Int) + 2) = (k : Int) + 2 := by unfold wrap64; omega
      have k0 : ¬ (1000 : Int) < (k : Int) := h2
      by_cases h3 : (len : Int) < (k : Int) + 2
      · rw [if_pos h3]
        clear hn h1 h2
        go_enter Tryd.func44, Tryd.ntmps44
        go_wp2
        go_ret3
        exact ⟨none, 0, rfl, val_nil _ _, gr_refl _ _⟩
      · rw [if_neg h3, Int.toNat_natCast]
        have hc := h.c
        have hm := h.m
        obtain ⟨a', hs, hb⟩ := h.mid (i := k) (j := k + 2) (m := 2) rfl (by decide) (by omega) ((k : Int) + 2) (by omega)
        have hcv := convU hb
        have hF := h.front (j := k) (c := k) (by omega) (Nat.le_refl _) (by omega)
        have HC := hide (bclone_any (by omega) hF)
        have hs2 : ∀ W : World, (Instr.sliceAt 22 (.slice a len cap) none (some (.int .i64 (k : Int))) (some (.int .i64 (k : Int)))).run Tryd.prog W = .ok (.slice a k k) W := fun W => by
          have h1 : (k : Int) ≤ (cap : Int) := by omega
          cases a <;> go_simp
        have hk : k ≤ 1000 := by omega
        have HL : Hid ((l.take k).length = k) := by show (l.take k).length = k; rw [List.length_take, hl]; omega
        by_cases hq : (l.drop k).take 2 = [13, 10]
        · rw [if_pos hq]
          rw [hq] at hcv
          clear hn h1 h2 hF hb hc hm hl hq h
          go_enter Tryd.func44, Tryd.ntmps44
          go_wp2_with (go_at_call 52; refine HC.out.mono ?_; rintro e w1 ⟨a1, c1, rfl, hv, hg⟩)
          go_ret3
          refine ⟨a1, c1, ?_, hv, hg⟩
          rw [HL.out]
          rfl
        · rw [if_neg hq]
          have hqb : ((l.drop k).take 2 == [13, 10]) = false := by simpa using hq
          generalize (l.drop k).take 2 = y at *
          clear hn h1 h2 hF hb hc hm hl h hq
          go_enter Tryd.func44, Tryd.ntmps44
          go_wp2_with (go_at_call 52; refine HC.out.mono ?_; rintro e w1 ⟨a1, c1, rfl, hv, hg⟩)
          go_ret3
          exact ⟨none, 0, rfl, val_nil _ _, gr_refl _ _⟩
end Go.Proofs.YtfcmnkhfmofioaaDoor

namespace Go.Proofs.YtfcmnkhfmofioaaDoor
open Go.RowKit

theorem opN_get : opN vb_get = some 0 := by decide
theorem opN_gets : opN vb_gets = some 0 := by decide
theorem opN_gat : opN vb_gat = some 1 := by decide
theorem opN_gats : opN vb_gats = some 1 := by decide
theorem opN_set : opN vb_set = some 3 := by decide
theorem opN_cas : opN vb_cas = some 3 := by decide
theorem opN_add : opN vb_add = some 4 := by decide
theorem opN_replace : opN vb_replace = some 5 := by decide
theorem opN_append : opN vb_append = some 6 := by decide
theorem opN_prepend : opN vb_prepend = some 7 := by decide
theorem opN_delete : opN vb_delete = some 8 := by decide
theorem opN_incr : opN vb_incr = some 10 := by decide
theorem opN_decr : opN vb_decr = some 11 := by decide
theorem opN_touch : opN vb_touch = some 2 := by decide
theorem opN_flush : opN vb_flush = some 13 := by decide
theorem opN_version : opN vb_version = some 15 := by decide
theorem opN_quit : opN vb_quit = some 16 := by decide
/-- No such first word. -/
structure NoVerb (v : List UInt8) : Prop where
  get_ : (v == vb_get) = false
  gets_ : (v == vb_gets) = false
  gat_ : (v == vb_gat) = false
  gats_ : (v == vb_gats) = false
  set_ : (v == vb_set) = false
  cas_ : (v == vb_cas) = false
  add_ : (v == vb_add) = false
  replace_ : (v == vb_replace) = false
  append_ : (v == vb_append) = false
  prepend_ : (v == vb_prepend) = false
  delete_ : (v == vb_delete) = false
  incr_ : (v == vb_incr) = false
  decr_ : (v == vb_decr) = false
  touch_ : (v == vb_touch) = false
  flush_ : (v == vb_flush) = false
  version_ : (v == vb_version) = false
  quit_ : (v == vb_quit) = false
theorem NoVerb.op {v : List UInt8} (h : NoVerb v) : opN v = none := by
  unfold opN
  simp only [show ¬ v = vb_get from by simpa using h.get_, show ¬ v = vb_gets from by simpa using h.gets_, show ¬ v = vb_gat from by simpa using h.gat_, show ¬ v = vb_gats from by simpa using h.gats_, show ¬ v = vb_set from by simpa using h.set_, show ¬ v = vb_cas from by simpa using h.cas_, show ¬ v = vb_add from by simpa using h.add_, show ¬ v = vb_replace from by simpa using h.replace_, show ¬ v = vb_append from by simpa using h.append_, show ¬ v = vb_prepend from by simpa using h.prepend_, show ¬ v = vb_delete from by simpa using h.delete_, show ¬ v = vb_incr from by simpa using h.incr_, show ¬ v = vb_decr from by simpa using h.decr_, show ¬ v = vb_touch from by simpa using h.touch_, show ¬ v = vb_flush from by simpa using h.flush_, show ¬ v = vb_version from by simpa using h.version_, show ¬ v = vb_quit from by simpa using h.quit_, or_self, if_false]
theorem verbs (v : List UInt8) : v = vb_get ∨ v = vb_gets ∨ v = vb_gat ∨ v = vb_gats ∨ v = vb_set ∨ v = vb_cas ∨ v = vb_add ∨ v = vb_replace ∨ v = vb_append ∨ v = vb_prepend ∨ v = vb_delete ∨ v = vb_incr ∨ v = vb_decr ∨ v = vb_touch ∨ v = vb_flush ∨ v = vb_version ∨ v = vb_quit ∨ NoVerb v := by
  by_cases h_get : v = vb_get
  · exact .inl h_get
  by_cases h_gets : v = vb_gets
  · exact .inr (.inl h_gets)
  by_cases h_gat : v = vb_gat
  · exact .inr (.inr (.inl h_gat))
  by_cases h_gats : v = vb_gats
  · exact .inr (.inr (.inr (.inl h_gats)))
  by_cases h_set : v = vb_set
  · exact .inr (.inr (.inr (.inr (.inl h_set))))
  by_cases h_cas : v = vb_cas
  · exact .inr (.inr (.inr (.inr (.inr (.inl h_cas)))))
  by_cases h_add : v = vb_add
  · exact .inr (.inr (.inr (.inr (.inr (.inr (.inl h_add))))))
  by_cases h_replace : v = vb_replace
  · exact .inr (.inr (.inr (.inr (.inr (.inr (.inr (.inl h_replace)))))))
  by_cases h_append : v = vb_append
  · exact .inr (.inr (.inr (.inr (.inr (.inr (.inr (.inr (.inl h_append))))))))
  by_cases h_prepend : v = vb_prepend
  · exact .inr (.inr (.inr (.inr (.inr (.inr (.inr (.inr (.inr (.inl h_prepend)))))))))
  by_cases h_delete : v = vb_delete
  · exact .inr (.inr (.inr (.inr (.inr (.inr (.inr (.inr (.inr (.inr (.inl h_delete))))))))))
  by_cases h_incr : v = vb_incr
  · exact .inr (.inr (.inr (.inr (.inr (.inr (.inr (.inr (.inr (.inr (.inr (.inl h_incr)))))))))))
  by_cases h_decr : v = vb_decr
  · exact .inr (.inr (.inr (.inr (.inr (.inr (.inr (.inr (.inr (.inr (.inr (.inr (.inl h_decr))))))))))))
  by_cases h_touch : v = vb_touch
  · exact .inr (.inr (.inr (.inr (.inr (.inr (.inr (.inr (.inr (.inr (.inr (.inr (.inr (.inl h_touch)))))))))))))
  by_cases h_flush : v = vb_flush
  · exact .inr (.inr (.inr (.inr (.inr (.inr (.inr (.inr (.inr (.inr (.inr (.inr (.inr (.inr (.inl h_flush))))))))))))))
  by_cases h_version : v = vb_version
  · exact .inr (.inr (.inr (.inr (.inr (.inr (.inr (.inr (.inr (.inr (.inr (.inr (.inr (.inr (.inr (.inl h_version)))))))))))))))
  by_cases h_quit : v = vb_quit
  · exact .inr (.inr (.inr (.inr (.inr (.inr (.inr (.inr (.inr (.inr (.inr (.inr (.inr (.inr (.inr (.inr (.inl h_quit))))))))))))))))
  exact .inr (.inr (.inr (.inr (.inr (.inr (.inr (.inr (.inr (.inr (.inr (.inr (.inr (.inr (.inr (.inr (.inr ⟨by simpa using h_get, by simpa using h_gets, by simpa using h_gat, by simpa using h_gats, by simpa using h_set, by simpa using h_cas, by simpa using h_add, by simpa using h_replace, by simpa using h_append, by simpa using h_prepend, by simpa using h_delete, by simpa using h_incr, by simpa using h_decr, by simpa using h_touch, by simpa using h_flush, by simpa using h_version, by simpa using h_quit⟩))))))))))))))))
set_option maxRecDepth 100000 in
set_option maxHeartbeats 4000000 in
theorem opOf_any (v : List UInt8) (w : World) : Calls Tryd.prog 53 #[.string (mkB v)] w fun e w' => e = .returned (.tuple #[.int .i64 ((opN v).getD 0), .bool (opN v).isSome]) ∧ w = w' := by
  rcases verbs v with rfl | rfl | rfl | rfl | rfl | rfl | rfl | rfl | rfl | rfl | rfl | rfl | rfl | rfl | rfl | rfl | rfl | h
  · rw [opN_get]
    simp only [mkB, vb_get, Option.getD, Option.isSome]
    go_enter Tryd.func53, Tryd.ntmps53
    go_wp2
    go_ret2
    exact ⟨rfl, rfl⟩
  · rw [opN_gets]
    simp only [mkB, vb_gets, Option.getD, Option.isSome]
    go_enter Tryd.func53, Tryd.ntmps53
    go_wp2
    go_ret2
    exact ⟨rfl, rfl⟩
  · rw [opN_gat]
    simp only [mkB, vb_gat, Option.getD, Option.isSome]
    go_enter Tryd.func53, Tryd.ntmps53
    go_wp2
    go_ret2
    exact ⟨rfl, rfl⟩
  · rw [opN_gats]
    simp only [mkB, vb_gats, Option.getD, Option.isSome]
    go_enter Tryd.func53, Tryd.ntmps53
    go_wp2
    go_ret2
    exact ⟨rfl, rfl⟩
  · rw [opN_set]
    simp only [mkB, vb_set, Option.getD, Option.isSome]
    go_enter Tryd.func53, Tryd.ntmps53
    go_wp2
    go_ret2
    exact ⟨rfl, rfl⟩
  · rw [opN_cas]
    simp only [mkB, vb_cas, Option.getD, Option.isSome]
    go_enter Tryd.func53, Tryd.ntmps53
    go_wp2
    go_ret2
    exact ⟨rfl, rfl⟩
  · rw [opN_add]
    simp only [mkB, vb_add, Option.getD, Option.isSome]
    go_enter Tryd.func53, Tryd.ntmps53
    go_wp2
    go_ret2
    exact ⟨rfl, rfl⟩
  · rw [opN_replace]
    simp only [mkB, vb_replace, Option.getD, Option.isSome]
    go_enter Tryd.func53, Tryd.ntmps53
    go_wp2
    go_ret2
    exact ⟨rfl, rfl⟩
  · rw [opN_append]
    simp only [mkB, vb_append, Option.getD, Option.isSome]
    go_enter Tryd.func53, Tryd.ntmps53
    go_wp2
    go_ret2
    exact ⟨rfl, rfl⟩
  · rw [opN_prepend]
    simp only [mkB, vb_prepend, Option.getD, Option.isSome]
    go_enter Tryd.func53, Tryd.ntmps53
    go_wp2
    go_ret2
    exact ⟨rfl, rfl⟩
  · rw [opN_delete]
    simp only [mkB, vb_delete, Option.getD, Option.isSome]
    go_enter Tryd.func53, Tryd.ntmps53
    go_wp2
    go_ret2
    exact ⟨rfl, rfl⟩
  · rw [opN_incr]
    simp only [mkB, vb_incr, Option.getD, Option.isSome]
    go_enter Tryd.func53, Tryd.ntmps53
    go_wp2
    go_ret2
    exact ⟨rfl, rfl⟩
  · rw [opN_decr]
    simp only [mkB, vb_decr, Option.getD, Option.isSome]
    go_enter Tryd.func53, Tryd.ntmps53
    go_wp2
    go_ret2
    exact ⟨rfl, rfl⟩
  · rw [opN_touch]
    simp only [mkB, vb_touch, Option.getD, Option.isSome]
    go_enter Tryd.func53, Tryd.ntmps53
    go_wp2
    go_ret2
    exact ⟨rfl, rfl⟩
  · rw [opN_flush]
    simp only [mkB, vb_flush, Option.getD, Option.isSome]
    go_enter Tryd.func53, Tryd.ntmps53
    go_wp2
    go_ret2
    exact ⟨rfl, rfl⟩
  · rw [opN_version]
    simp only [mkB, vb_version, Option.getD, Option.isSome]
    go_enter Tryd.func53, Tryd.ntmps53
    go_wp2
    go_ret2
    exact ⟨rfl, rfl⟩
  · rw [opN_quit]
    simp only [mkB, vb_quit, Option.getD, Option.isSome]
    go_enter Tryd.func53, Tryd.ntmps53
    go_wp2
    go_ret2
    exact ⟨rfl, rfl⟩
  · rw [h.op]
    have h_get := h.get_
    have h_gets := h.gets_
    have h_gat := h.gat_
    have h_gats := h.gats_
    have h_set := h.set_
    have h_cas := h.cas_
    have h_add := h.add_
    have h_replace := h.replace_
    have h_append := h.append_
    have h_prepend := h.prepend_
    have h_delete := h.delete_
    have h_incr := h.incr_
    have h_decr := h.decr_
    have h_touch := h.touch_
    have h_flush := h.flush_
    have h_version := h.version_
    have h_quit := h.quit_
    simp only [vb_get, vb_gets, vb_gat, vb_gats, vb_set, vb_cas, vb_add, vb_replace, vb_append, vb_prepend, vb_delete, vb_incr, vb_decr, vb_touch, vb_flush, vb_version, vb_quit] at h_get h_gets h_gat h_gats h_set h_cas h_add h_replace h_append h_prepend h_delete h_incr h_decr h_touch h_flush h_version h_quit
    simp only [mkB, Option.getD, Option.isSome]
    clear h
    go_enter Tryd.func53, Tryd.ntmps53
    go_wp2
    go_ret2
    exact ⟨rfl, rfl⟩
end Go.Proofs.YtfcmnkhfmofioaaDoor

namespace Go.Proofs.YtfcmnkhfmofioaaDoor
open Go.RowKit

/-- Where a function stands that was called at w0 and owns the blocks F there. -/
structure LawF (F : Nat → Prop) (w0 w : World) (A : Part) : Prop where
  gr : Gr F w0 w
  q : A.q w
  lt : ∀ k, A.own k → k < w.heap.size ∧ (F k ∨ w0.heap.size ≤ k)
section
variable {F : Nat → Prop} {w0 w w' w1 : World} {A A' B C D R R' : Part}
theorem LawF.start {w : World} {A : Part} (h : A.q w) (hl : ∀ k, A.own k → k < w.heap.size) : LawF A.own w w A := ⟨Gr.refl _ _, h, fun k hk => ⟨hl k hk, .inl hk⟩⟩
theorem LawF.bare (w : World) : LawF (fun _ => False) w w Part.emp := ⟨Gr.refl _ _, trivial, fun _ h => h.elim⟩
/-- What a contract tells. -/
theorem LawF.grew (H : LawF F w0 w A) : Grew w0 F A.own := fun k hk => (H.lt k hk).2
theorem LawF.size (H : LawF F w0 w A) : w0.heap.size ≤ w.heap.size := H.gr.size
theorem LawF.step (H : LawF F w0 w A) (hg : w.grownBy w' none) : LawF F w0 w' A :=
  ⟨H.gr.then (Gr.of hg) (fun _ _ e => by cases e), A.on w w' H.q fun k hk => hg.block k (H.lt k hk).1 (by simp), fun k hk => ⟨Nat.lt_of_lt_of_le (H.lt k hk).1 hg.size, (H.lt k hk).2⟩⟩
theorem LawF.drew (H : LawF F w0 w A) : LawF F w0 w.drew A := H.step ⟨rfl, rfl, rfl, Nat.le_refl _, fun _ _ _ => rfl⟩
theorem LawF.drewN (H : LawF F w0 w A) (j : Nat) : LawF F w0 (w.drewN j) A := H.step ⟨rfl, rfl, rfl, Nat.le_refl _, fun _ _ _ => rfl⟩
theorem LawF.alloc (H : LawF F w0 w A) (o : Obj) : LawF F w0 (w.alloc o) A := H.step (World.grownBy_alloc w o none)
/-- The first part turns. -/
theorem LawF.turn (H : LawF F w0 w (A.and R)) (hq : A'.q w') (hl : ∀ k, A'.own k → k < w'.heap.size) (hg : Gr A.own w w') (hgr : Grew w A.own A'.own) : LawF F w0 w' (A'.and R) := by
  refine ⟨H.gr.then hg (fun i hi ha => (H.lt i (.inl ha)).2.elim id fun h => absurd hi (Nat.not_lt_of_le h)), ⟨hq, R.on w w' H.q.2.1 fun k hk => hg.block k (H.lt k (.inr hk)).1 (fun ha => H.q.2.2 k ha hk), fun k ha hr => ?_⟩, ?_⟩
  · rcases hgr k ha with h | h
    · exact H.q.2.2 k h hr
    · exact Nat.not_lt_of_le h (H.lt k (.inr hr)).1
  · rintro k (hk | hk)
    · refine ⟨hl k hk, ?_⟩
      rcases hgr k hk with h | h
      · exact (H.lt k (.inl h)).2
      · exact .inr (Nat.le_trans H.gr.size h)
    · exact ⟨Nat.lt_of_lt_of_le (H.lt k (.inr hk)).1 hg.size, (H.lt k (.inr hk)).2⟩
/-- A new part. -/
theorem LawF.new (H : LawF F w0 w R) (hg : w.grownBy w' none) (hq : A.q w') (hn : ∀ k, A.own k → w.heap.size ≤ k ∧ k < w'.heap.size) : LawF F w0 w' (A.and R) := by
  have S := H.step hg
  refine ⟨S.gr, ⟨hq, S.q, fun k ha hr => Nat.not_lt_of_le (hn k ha).1 (H.lt k hr).1⟩, ?_⟩
  rintro k (hk | hk)
  · exact ⟨(hn k hk).2, .inr (Nat.le_trans H.gr.size (hn k hk).1)⟩
  · exact S.lt k hk
/-- Less is known, or the same in other words. -/
theorem LawF.weak (H : LawF F w0 w A) (hq : A.q w → B.q w) (ho : ∀ k, B.own k → A.own k) : LawF F w0 w B := ⟨H.gr, hq H.q, fun k hk => H.lt k (ho k hk)⟩
theorem LawF.comm (H : LawF F w0 w (A.and B)) : LawF F w0 w (B.and A) := H.weak (fun h => ⟨h.2.1, h.1, fun k hb ha => h.2.2 k ha hb⟩) fun _ hk => hk.symm
theorem LawF.rot (H : LawF F w0 w (A.and (B.and C))) : LawF F w0 w (B.and (A.and C)) := H.weak (fun h => and_rot_q h) fun k hk => and_rot_own k hk
theorem LawF.left (H : LawF F w0 w (A.and B)) : LawF F w0 w A := H.weak (fun h => h.1) fun _ hk => .inl hk
theorem LawF.right (H : LawF F w0 w (A.and B)) : LawF F w0 w B := H.weak (fun h => h.2.1) fun _ hk => .inr hk
theorem LawF.weak1 (H : LawF F w0 w (A.and R)) (hq : A.q w → A'.q w) (ho : ∀ k, A'.own k → A.own k) : LawF F w0 w (A'.and R) := H.weak (fun h => ⟨hq h.1, h.2.1, fun k ha hr => h.2.2 k (ho k ha) hr⟩) fun k hk => hk.imp (ho k) id
theorem LawF.in1 (H : LawF F w0 w (A.and R)) (hq : R.q w → R'.q w) (ho : ∀ k, R'.own k → R.own k) : LawF F w0 w (A.and R') := (H.comm.weak1 hq ho).comm
theorem LawF.rin (H : LawF F w0 w (A.and (B.and (C.and D)))) : LawF F w0 w (A.and (C.and (B.and D))) := H.in1 (fun h => and_rot_q h) fun k hk => and_rot_own k hk
end
section
variable {F : Nat → Prop} {w0 w w' w1 : World} {A A' B C R R' : Part} {e t : TypeId} {size n m n0 k : Nat} {v v' x y : Value} {xs ys : List Value} {tmp : Obj}
theorem LawF.box (H : LawF F w0 w R) (o : Obj) : LawF F w0 (w.alloc o) ((boxP w.heap.size o).and R) :=
  H.new (World.grownBy_alloc w o none) (World.alloc_heap_new w o) (by rintro k rfl; rw [World.size_alloc]; exact ⟨Nat.le_refl _, Nat.lt_succ_self _⟩)
theorem LawF.nil (H : LawF F w0 w R) : LawF F w0 w ((rowP n0 e size (.slice none 0 0) 0 []).and R) :=
  ⟨H.gr, ⟨World.ownsRow_nil _ _ _ _, H.q, fun k ha => by cases ha⟩, fun k hk => hk.elim (fun h => by cases h) (H.lt k)⟩
theorem LawF.setAt {cs : Array Value} (H : LawF F w0 w ((boxP k (.cells cs t)).and R)) (i : Nat) (y : Value) : LawF F w0 (w.setCell ⟨k, i, none⟩ y) ((boxP k (.cells (cs.setIfInBounds i y) t)).and R) := by
  refine H.turn (A' := boxP k (.cells (cs.setIfInBounds i y) t)) (heap_setCell_same w k i cs t y H.q.1) (fun j hj => ?_) ?_ fun j hj => .inl hj
  · rw [World.size_setCell]
    exact (H.lt j (.inl hj)).1
  · exact ⟨rfl, rfl, rfl, by rw [World.size_setCell]; exact Nat.le_refl _, fun j _ hn => heap_setCell_other _ _ _ _ hn⟩
theorem LawF.app (H : LawF F w0 w ((rowP n0 e size v n xs).and R)) (hown : w1.ownsRow n0 e size v' m ys) (hgrow : (w.alloc tmp).grownBy w1 v.ownBlock) (hat : v'.ownBlock = v.ownBlock ∨ v'.ownBlock = some (w.alloc tmp).heap.size) : LawF F w0 w1 ((rowP n0 e size v' m ys).and R) := by
  have hsa : (w.alloc tmp).heap.size = w.heap.size + 1 := World.size_alloc _ _
  have hs1 := hgrow.size
  refine H.turn hown (fun k hk => (own_at hown hk).2.1) ⟨hgrow.1, hgrow.2, hgrow.3, by omega, fun k hk hr => (hgrow.block k (by omega) (fun e => hr e.symm)).trans (Below.heap_alloc _ _ _ hk)⟩ fun k hk => ?_
  rcases hat with h | h
  · exact .inl (h.symm.trans hk)
  · have hk' : v'.ownBlock = some k := hk
    rw [h] at hk'
    cases hk'
    exact .inr (by omega)
theorem LawF.app0 (H : LawF F w0 w ((rowP n0 e size v n xs).and R)) (hown : w1.ownsRow n0 e size v' m ys) (hgrow : w.grownBy w1 v.ownBlock) (hat : v'.ownBlock = v.ownBlock ∨ v'.ownBlock = some w.heap.size) : LawF F w0 w1 ((rowP n0 e size v' m ys).and R) := by
  refine H.turn hown (fun k hk => (own_at hown hk).2.1) ⟨hgrow.1, hgrow.2, hgrow.3, hgrow.size, fun k hk hr => hgrow.block k hk (fun e => hr e.symm)⟩ fun k hk => ?_
  rcases hat with h | h
  · exact .inl (h.symm.trans hk)
  · have hk' : v'.ownBlock = some k := hk
    rw [h] at hk'
    cases hk'
    exact .inr (Nat.le_refl _)
end
/-- The fourth part comes first. -/
theorem LawF.rot4 {F : Nat → Prop} {w0 w : World} {A B C D E : Part} (H : LawF F w0 w (A.and (B.and (C.and (D.and E))))) : LawF F w0 w (D.and (A.and (B.and (C.and E)))) := by
  refine H.weak (fun h => ?_) fun k hk => ?_
  · obtain ⟨hA, ⟨hB, ⟨hC, ⟨hD, hE, hDE⟩, hC2⟩, hB2⟩, hA2⟩ := h
    refine ⟨hD, ⟨hA, ⟨hB, ⟨hC, hE, fun k hc he => hC2 k hc (.inr he)⟩, ?_⟩, ?_⟩, ?_⟩
    · rintro k hb (hc | he)
      · exact hB2 k hb (.inl hc)
      · exact hB2 k hb (.inr (.inr he))
    · rintro k ha (hb | hc | he)
      · exact hA2 k ha (.inl hb)
      · exact hA2 k ha (.inr (.inl hc))
      · exact hA2 k ha (.inr (.inr (.inr he)))
    · rintro k hd (ha | hb | hc | he)
      · exact hA2 k ha (.inr (.inr (.inl hd)))
      · exact hB2 k hb (.inr (.inl hd))
      · exact hC2 k hc (.inl hd)
      · exact hDE k hd he
  · rcases hk with hk | hk | hk | hk | hk
    · exact .inr (.inr (.inr (.inl hk)))
    · exact .inl hk
    · exact .inr (.inl hk)
    · exact .inr (.inr (.inl hk))
    · exact .inr (.inr (.inr (.inr hk)))
/-- The first part becomes the fourth. -/
theorem LawF.unrot4 {F : Nat → Prop} {w0 w : World} {A B C D E : Part} (H : LawF F w0 w (D.and (A.and (B.and (C.and E))))) : LawF F w0 w (A.and (B.and (C.and (D.and E)))) := by
  refine H.weak (fun h => ?_) fun k hk => ?_
  · obtain ⟨hD, ⟨hA, ⟨hB, ⟨hC, hE, hCE⟩, hB2⟩, hA2⟩, hD2⟩ := h
    refine ⟨hA, ⟨hB, ⟨hC, ⟨hD, hE, fun k hd he => hD2 k hd (.inr (.inr (.inr he)))⟩, ?_⟩, ?_⟩, ?_⟩
    · rintro k hc (hd | he)
      · exact hD2 k hd (.inr (.inr (.inl hc)))
      · exact hCE k hc he
    · rintro k hb (hc | hd | he)
      · exact hB2 k hb (.inl hc)
      · exact hD2 k hd (.inr (.inl hb))
      · exact hB2 k hb (.inr he)
    · rintro k ha (hb | hc | hd | he)
      · exact hA2 k ha (.inl hb)
      · exact hA2 k ha (.inr (.inl hc))
      · exact hD2 k hd (.inl ha)
      · exact hA2 k ha (.inr (.inr he))
  · rcases hk with hk | hk | hk | hk | hk
    · exact .inr (.inl hk)
    · exact .inr (.inr (.inl hk))
    · exact .inr (.inr (.inr (.inl hk)))
    · exact .inl hk
    · exact .inr (.inr (.inr (.inr hk)))
/-- Several parts of one kind, beside each other. -/
def manyP (I : Nat → Prop) (A : Nat → Part) : Part where
  own := fun k => ∃ i, I i ∧ (A i).own k
  q := fun w => (∀ i, I i → (A i).q w) ∧ ∀ i j, I i → I j → i ≠ j → ∀ k, (A i).own k → ¬ (A j).own k
  on := fun w1 w2 h hs => ⟨fun i hi => (A i).on w1 w2 (h.1 i hi) fun k hk => hs k ⟨i, hi, hk⟩, h.2⟩
section
variable {F : Nat → Prop} {w0 w : World} {I : Nat → Prop} {A : Nat → Part} {B R : Part} {i : Nat}
/-- Parts that have no blocks. -/
theorem LawF.many0 (H : LawF F w0 w R) (hq : ∀ i, I i → (A i).q w) (ho : ∀ i k, ¬ (A i).own k) : LawF F w0 w ((manyP I A).and R) :=
  ⟨H.gr, ⟨⟨hq, fun i _ _ _ _ k hk => (ho i k hk).elim⟩, H.q, fun k ⟨i, _, hk⟩ => (ho i k hk).elim⟩, fun k hk => hk.elim (fun ⟨i, _, hk⟩ => (ho i k hk).elim) (H.lt k)⟩
/-- One of them is taken out. -/
theorem LawF.pick (H : LawF F w0 w ((manyP I A).and R)) (i : Nat) (hi : I i) : LawF F w0 w ((A i).and ((manyP (fun j => I j ∧ j ≠ i) A).and R)) := by
  refine H.weak (fun h => ?_) fun k hk => ?_
  · refine ⟨h.1.1 i hi, ⟨⟨fun j hj => h.1.1 j hj.1, fun j l hj hl => h.1.2 j l hj.1 hl.1⟩, h.2.1, ?_⟩, ?_⟩
    · rintro k ⟨j, hj, hk⟩ hr
      exact h.2.2 k ⟨j, hj.1, hk⟩ hr
    · rintro k hk (⟨j, hj, hjk⟩ | hr)
      · exact h.1.2 j i hj.1 hi hj.2 k hjk hk
      · exact h.2.2 k ⟨i, hi, hk⟩ hr
  · rcases hk with hk | ⟨j, hj, hk⟩ | hk
    · exact .inl ⟨i, hi, hk⟩
    · exact .inl ⟨j, hj.1, hk⟩
    · exact .inr hk
def turnAt (A : Nat → Part) (i : Nat) (B : Part) : Nat → Part := fun j => if j = i then B else A j
/-- One is put back, turned perhaps. -/
theorem LawF.back (H : LawF F w0 w (B.and ((manyP (fun j => I j ∧ j ≠ i) A).and R))) : LawF F w0 w ((manyP I (turnAt A i B)).and R) := by
  have other : ∀ j, j ≠ i → turnAt A i B j = A j := fun j hj => if_neg hj
  have same : ∀ j, j = i → turnAt A i B j = B := fun j hj => if_pos hj
  refine H.weak (fun h => ?_) fun k hk => ?_
  · refine ⟨⟨fun j hj => ?_, fun j l hj hl hne k hk => ?_⟩, h.2.1.2.1, ?_⟩
    · by_cases e : j = i
      · rw [same j e]
        exact h.1
      · rw [other j e]
        exact h.2.1.1.1 j ⟨hj, e⟩
    · by_cases e : j = i
      · have e2 : l ≠ i := fun e2 => hne (e.trans e2.symm)
        rw [same j e] at hk
        rw [other l e2]
        exact fun hl2 => h.2.2 k hk (.inl ⟨l, ⟨hl, e2⟩, hl2⟩)
      · rw [other j e] at hk
        by_cases e2 : l = i
        · rw [same l e2]
          exact fun hb => h.2.2 k hb (.inl ⟨j, ⟨hj, e⟩, hk⟩)
        · rw [other l e2]
          exact h.2.1.1.2 j l ⟨hj, e⟩ ⟨hl, e2⟩ hne k hk
    · rintro k ⟨j, hj, hk⟩ hr
      by_cases e : j = i
      · rw [same j e] at hk
        exact h.2.2 k hk (.inr hr)
      · rw [other j e] at hk
        exact h.2.1.2.2 k ⟨j, ⟨hj, e⟩, hk⟩ hr
  · rcases hk with ⟨j, hj, hk⟩ | hk
    · by_cases e : j = i
      · rw [same j e] at hk
        exact .inl hk
      · rw [other j e] at hk
        exact .inr (.inl ⟨j, ⟨hj, e⟩, hk⟩)
    · exact .inr (.inr hk)
end
end Go.Proofs.YtfcmnkhfmofioaaDoor
