/- What the listed package-level variables give to a walk: the table of powers of ten holds its numbers, and the two sentinel errors of strconv hold interface values; each goes on holding so whatever a call does at its own blocks. Conditions: the row's own list is met at the start. What Decimal and Show of package num answer, and what memory they leave: Show(u) is u's decimal numeral; Decimal(s) is the number that s spells where s has at most 40 bytes, is digits alone and lies below 2^64, else none. Conditions: the listed variables hold what the program's text lays. What Signed of package num answers: the number of a Decimal of at most 2^40, with or without a minus ahead, else none. Conditions: the listed variables hold what the program's text lays. The words of a line, as a plain function: the longest pieces without a blank, from the left. Conditions: none. -/
import Derived.Test.YtfcmnkhfmofioaaDoorRows
import Derived.Test.YtfcmnkhfmofioaaDoorShelf
import Derived.WalkKit
import Derived.WalkSmall
import Derived.Stop.LaidErr
import Derived.Lib.LaidTab
import Derived.Lib.ItoaNum
import Derived.LaidMore
import Derived.MakeChecks
import Derived.Lib.Walk
import Derived.Lib.ItoaMem
import Derived.Lib.ParseUintOr
import Derived.Lib.AtoiErrMem
import Derived.BigCall
import Derived.BigGuard
namespace Go.Proofs.YtfcmnkhfmofioaaDoor
open Go.RowKit

theorem own : ownKnob Tryd.prog.godebug = none := by kernel_rfl
theorem laidOut : laidOutB Tryd.prog = true := by kernel_rfl
theorem gTab : Tryd.prog.globalNamed "internal/strconv.uint64pow10" = some 3 := by kernel_rfl
theorem gTabType : (Tryd.prog.globals[3]?).map (·.type) = some 123 := by kernel_rfl
theorem gSyn : Tryd.prog.globalNamed "strconv.ErrSyntax" = some 1 := by kernel_rfl
theorem gSynType : (Tryd.prog.globals[1]?).map (·.type) = some 97 := by kernel_rfl
theorem gRng : Tryd.prog.globalNamed "strconv.ErrRange" = some 2 := by kernel_rfl
theorem gRngType : (Tryd.prog.globals[2]?).map (·.type) = some 97 := by kernel_rfl
theorem cellsTab : Tryd.prog.cellsOf 123 = 20 := by kernel_rfl
theorem cells_u64 : Tryd.prog.cellsOf 37 = 1 := by kernel_rfl
theorem cells_es : Tryd.prog.cellsOf 114 = 1 := by kernel_rfl
theorem cells_str : Tryd.prog.cellsOf 9 = 1 := by kernel_rfl
theorem star : "*" ++ "errors.errorString" = "*errors.errorString" := by decide
theorem rowEs (u : TypeId) (h : Tryd.prog.typeName? 3 u = some "*errors.errorString") : u = 112 :=
  typeName_ptr_named (nm := "errors.errorString") (by rw [star]; kernel_rfl) (by kernel_rfl) (by decide) u (by rw [star]; exact h)

/-- What every call below needs of the start's memory. -/
structure Laid (w : World) : Prop where
  tab : Lib.TabIs Tryd.prog w "internal/strconv.uint64pow10" .u64 Lib.pow10Tab
  syn : ∃ tp p, w.var? Tryd.prog "strconv.ErrSyntax" = some #[.iface tp p]
  rng : ∃ tp p, w.var? Tryd.prog "strconv.ErrRange" = some #[.iface tp p]

theorem var_on {n : String} {cs : Array Value} {w w' : World} (h : w.var? Tryd.prog n = some cs) (hb : Below w.heap.size w w') : w'.var? Tryd.prog n = some cs := by
  unfold World.var? at h ⊢
  cases hg : Tryd.prog.globalNamed n with
  | none => simp [hg] at h
  | some g =>
    simp only [hg, Option.bind_some] at h ⊢
    have hlt : g < w.heap.size := by
      rcases Nat.lt_or_ge g w.heap.size with h' | h'
      · exact h'
      · rw [Array.getElem?_eq_none h'] at h; simp at h
    rw [hb.block g hlt]
    exact h

theorem Laid.on {w w' : World} (h : Laid w) (hb : Below w.heap.size w w') : Laid w' :=
  ⟨var_on h.tab hb, by obtain ⟨tp, p, hv⟩ := h.syn; exact ⟨tp, p, var_on hv hb⟩, by obtain ⟨tp, p, hv⟩ := h.rng; exact ⟨tp, p, var_on hv hb⟩⟩

/-- The five variables as the rows list them. -/
def five : List (String × DataW Unit) := [("math/bits.deBruijn32tab", Rows.laid_math_bits_deBruijn32tab), ("math/bits.deBruijn64tab", Rows.laid_math_bits_deBruijn64tab), ("internal/strconv.uint64pow10", Rows.laid_internal_strconv_uint64pow10), ("strconv.ErrRange", Rows.laid_strconv_ErrRange), ("strconv.ErrSyntax", Rows.laid_strconv_ErrSyntax)]

theorem laid_of {W : World} (h : laidMetH Tryd.prog five W) : Laid W := by
  rw [MakeChecks.laidMetH_plain _ _ _ (by kernel_rfl)] at h
  have h3 : laidMet Tryd.prog (("internal/strconv.uint64pow10", Lib.tabData .u64 Lib.pow10Tab) :: [("strconv.ErrRange", Rows.laid_strconv_ErrRange), ("strconv.ErrSyntax", Rows.laid_strconv_ErrSyntax)]) W := h.tail.tail
  have h4 := h3.tail
  have h5 := h4.tail
  obtain ⟨a1, s1, hv1, -, -, -⟩ := laid_sentinel h4 gRng gRngType Tryd.underlying97 rowEs Tryd.underlying112 Tryd.underlying114 rfl rfl Tryd.underlying9 cells_es cells_str
  obtain ⟨a2, s2, hv2, -, -, -⟩ := laid_sentinel h5 gSyn gSynType Tryd.underlying97 rowEs Tryd.underlying112 Tryd.underlying114 rfl rfl Tryd.underlying9 cells_es cells_str
  exact ⟨Lib.tabIs_of_head gTab gTabType Tryd.underlying123 Tryd.underlying37 cells_u64 cellsTab h3, ⟨_, _, hv2⟩, ⟨_, _, hv1⟩⟩

/-- The heap that the initialisers' own run leaves meets the list. -/
theorem door_met (os : Os) (args : Array Value) : laidMetH Tryd.prog five ((World.doorLaid Tryd.prog 62 os).forCall (fun _ _ => 0) ⟨#[], args, []⟩).memory :=
  laidMetH_of_parts3 (fuel := 8) (laidMet_of_run' 8 (by kernel_rfl) (by kernel_rfl)) (by kernel_rfl) (by kernel_rfl)
end Go.Proofs.YtfcmnkhfmofioaaDoor

namespace Go.Proofs.YtfcmnkhfmofioaaDoor
open Go.RowKit Go.Sort

/-- The number that Decimal answers, or none. -/
def dec (l : List UInt8) : Option Nat := if 40 < l.length then none else match Lib.parseUintB 64 l with | .ok u => some u | _ => none
def decV (l : List UInt8) : Int := ((dec l).getD 0 : Nat)
def decB (l : List UInt8) : Bool := (dec l).isSome

theorem size_list (s : ByteArray) : s.data.toList.length = s.size := by rw [Array.length_toList]; rfl

theorem parse_no (s : ByteArray) (hlim : s.size ≤ 281474976710656) (h0 : ∀ u, Lib.parseUintB 64 s.data.toList ≠ .ok u) (h1 : Lib.parseUintB 64 s.data.toList ≠ .range) (tp : TypeId) (p : Value) (w : World) (hvar : w.var? Tryd.prog "strconv.ErrSyntax" = some #[.iface tp p]) :
    Calls Tryd.prog 71 #[.string s, .int .i64 10, .int .i64 64] w fun e w' => ∃ N, e = .returned (.tuple #[.int .u64 0, .iface 104 (.pointer (some ⟨N, 0, none⟩))]) ∧ Below w.heap.size w w' := by
  rcases h : Lib.parseUintB 64 s.data.toList with u | _ | _
  · exact absurd h (h0 u)
  · exact (Any.strconv_ParseUint_10_at64_syntax_var Tryd.laysPu14 s hlim h tp p w hvar).mono fun e w' ⟨N, he, _, _, hb⟩ => ⟨N, he, hb⟩
  · exact absurd h h1

set_option maxRecDepth 100000 in
theorem decimal_any (s : ByteArray) (hs : s.size ≤ 140737488351232) (w : World) (hL : Laid w) :
    Calls Tryd.prog 67 #[.string s] w fun e w' => e = .returned (.tuple #[.int .u64 (decV s.data.toList), .bool (decB s.data.toList)]) ∧ Below w.heap.size w w' := by
  have hl := size_list s
  by_cases h40 : 40 < s.size
  · have hi : (40 : Int) < (s.size : Int) := by omega
    have e1 : decV s.data.toList = 0 := by simp [decV, dec, hl, h40]
    have e2 : decB s.data.toList = false := by simp [decB, dec, hl, h40]
    rw [e1, e2]
    clear e1 e2 hl
    go_enter Tryd.func67, Tryd.ntmps67
    go_wp2
    go_ret2
    exact ⟨rfl, Below.refl _ _⟩
  · have hi : ¬ (40 : Int) < (s.size : Int) := by omega
    obtain ⟨tp0, p0, hv0⟩ := hL.syn
    obtain ⟨tp1, p1, hv1⟩ := hL.rng
    rcases h : Lib.parseUintB 64 s.data.toList with u | _ | _
    · have e1 : decV s.data.toList = u := by simp [decV, dec, hl, h40, h]
      have e2 : decB s.data.toList = true := by simp [decB, dec, hl, h40, h]
      rw [e1, e2]
      clear e1 e2 hl hL hv0 hv1
      go_enter Tryd.func67, Tryd.ntmps67
      go_wp2_with (go_at_call 71; refine (Tryd.strconv_ParseUint_10_at64_ok s (by omega) u h _).mono ?_; rintro e w' ⟨rfl, hw⟩)
      go_wp2
      go_ret2
      refine ⟨rfl, ?_⟩
      rcases hw with rfl | rfl
      · exact Below.refl _ _
      · exact Lib.bytesWorld_below _ _ _
    · have e1 : decV s.data.toList = 0 := by simp [decV, dec, hl, h40, h]
      have e2 : decB s.data.toList = false := by simp [decB, dec, hl, h40, h]
      rw [e1, e2]
      clear e1 e2 hl hL hv1
      go_enter Tryd.func67, Tryd.ntmps67
      go_wp2_with (go_at_call 71; refine (parse_no s (by omega) (by rw [h]; intro u hu; cases hu) (by rw [h]; intro hu; cases hu) tp0 p0 _ hv0).mono ?_; rintro e W1 ⟨N, rfl, hb⟩)
      go_wp2
      go_ret2
      exact ⟨rfl, hb⟩
    · have e1 : decV s.data.toList = 0 := by simp [decV, dec, hl, h40, h]
      have e2 : decB s.data.toList = false := by simp [decB, dec, hl, h40, h]
      rw [e1, e2]
      clear e1 e2 hl hL hv0
      go_enter Tryd.func67, Tryd.ntmps67
      go_wp2_with (go_at_call 71; refine (Tryd.strconv_ParseUint_10_at64_range_var s (by omega) h tp1 p1 _ hv1).mono ?_; rintro e W1 ⟨N, rfl, -, -, hb⟩)
      go_wp2
      go_ret2
      exact ⟨rfl, hb⟩
end Go.Proofs.YtfcmnkhfmofioaaDoor

namespace Go.Proofs.YtfcmnkhfmofioaaDoor
open Go.RowKit

/-- A Decimal of at most 2^40, or none. -/
def small40 (l : List UInt8) : Option Int := match dec l with | some u => if u ≤ 1099511627776 then some (u : Int) else none | none => none
/-- The number that Signed answers, or none. -/
def sgn (l : List UInt8) : Option Int := if l.head? = some 45 then (small40 (l.drop 1)).map (fun z => -z) else small40 l
def sgnV (l : List UInt8) : Int := (sgn l).getD 0
def sgnB (l : List UInt8) : Bool := (sgn l).isSome

theorem dec_cases (l : List UInt8) :
    (decV l = 0 ∧ decB l = false ∧ (small40 l).getD 0 = 0 ∧ (small40 l).isSome = false) ∨
    (∃ u : Nat, (1099511627776 : Int) < (u : Int) ∧ decV l = (u : Int) ∧ decB l = true ∧ (small40 l).getD 0 = 0 ∧ (small40 l).isSome = false) ∨
    (∃ u : Nat, (u : Int) ≤ 1099511627776 ∧ decV l = (u : Int) ∧ decB l = true ∧ (small40 l).getD 0 = (u : Int) ∧ (small40 l).isSome = true) := by
  cases h : dec l with
  | none => exact .inl ⟨by simp [decV, h], by simp [decB, h], by simp [small40, h], by simp [small40, h]⟩
  | some u =>
    by_cases hu : u ≤ 1099511627776
    · exact .inr (.inr ⟨u, by omega, by simp [decV, h], by simp [decB, h], by simp [small40, h, hu], by simp [small40, h, hu]⟩)
    · exact .inr (.inl ⟨u, by omega, by simp [decV, h], by simp [decB, h], by simp [small40, h, hu], by simp [small40, h, hu]⟩)
theorem neg_get {o : Option Int} {x : Int} (h : o.getD 0 = x) : (o.map (fun z => -z)).getD 0 = -x := by subst h; cases o <;> simp
theorem neg_some {o : Option Int} {b : Bool} (h : o.isSome = b) : (o.map (fun z => -z)).isSome = b := by cases o <;> simp_all
theorem extract_one (s : ByteArray) : (s.extract 1 s.size).data.toList = s.data.toList.drop 1 := by
  rw [ByteArray.data_extract, Array.toList_extract]
  simp only [List.extract]
  rw [List.take_of_length_le]
  have hl := size_list s
  rw [List.length_drop]
  omega
theorem head_at (s : ByteArray) (hp : 0 < s.size) : s.data.toList.head? = some (s[0]'hp) := by
  have hl := size_list s
  rw [List.head?_eq_getElem?, List.getElem?_eq_getElem (by omega)]
  rfl
theorem sgn_cases (s : ByteArray) :
    (s.toList = [] ∧ s.size = 0 ∧ sgn s.data.toList = small40 s.data.toList) ∨
    (¬ s.toList = [] ∧ ∃ hp : 0 < s.size, ((s[0]'hp).toNat : Int) = 45 ∧ sgn s.data.toList = (small40 (s.data.toList.drop 1)).map (fun z => -z)) ∨
    (¬ s.toList = [] ∧ ∃ hp : 0 < s.size, ¬ ((s[0]'hp).toNat : Int) = 45 ∧ sgn s.data.toList = small40 s.data.toList) := by
  have hl := size_list s
  by_cases h0 : s.size = 0
  · have he : s.data.toList = [] := List.eq_nil_of_length_eq_zero (by omega)
    exact .inl ⟨by rw [ByteArray.toList_eq, he], h0, by simp [sgn, he]⟩
  · have hp : 0 < s.size := by omega
    have hne : ¬ s.toList = [] := by rw [ByteArray.toList_eq]; intro he; rw [he] at hl; simp at hl; omega
    by_cases h45 : ((s[0]'hp).toNat : Int) = 45
    · have e : (s[0]'hp) = 45 := by apply UInt8.toNat_inj.1; have : ((45 : UInt8).toNat : Int) = 45 := by decide
                                    omega
      exact .inr (.inl ⟨hne, hp, h45, by unfold sgn; rw [head_at s hp, e, if_pos rfl]⟩)
    · have e : ¬ (s[0]'hp) = 45 := by intro e; rw [e] at h45; exact h45 (by decide)
      exact .inr (.inr ⟨hne, hp, h45, by unfold sgn; rw [head_at s hp, if_neg (by simpa using e)]⟩)

set_option maxHeartbeats 2000000 in
theorem signed_any (s : ByteArray) (hs : s.size ≤ 140737488351232) (w : World) (hL : Laid w) :
    Calls Tryd.prog 61 #[.string s] w fun e w' => e = .returned (.tuple #[.int .i64 (sgnV s.data.toList), .bool (sgnB s.data.toList)]) ∧ Below w.heap.size w w' := by
  rcases sgn_cases s with ⟨h1, h0, he⟩ | ⟨h1, hp, h45, he⟩ | ⟨h1, hp, h45, he⟩
  · rcases dec_cases s.data.toList with ⟨d1, d2, e1, e2⟩ | ⟨u, hu, d1, d2, e1, e2⟩ | ⟨u, hu, d1, d2, e1, e2⟩
    all_goals
      rw [show sgnV s.data.toList = _ from (congrArg (·.getD 0) he).trans e1, show sgnB s.data.toList = _ from (congrArg (·.isSome) he).trans e2]
      clear he e1 e2
      go_enter Tryd.func61, Tryd.ntmps61
      go_wp2_with (go_at_call 67; refine (decimal_any s hs _ hL).mono ?_; rintro e w' ⟨rfl, hb⟩)
      go_ret2
      exact ⟨rfl, hb⟩
  · have hE : s.toList.isEmpty = false := by simpa using h1
    have hx : (s.extract 1 s.size).size ≤ 140737488351232 := by rw [ByteArray.size_extract]; omega
    have hxl : (s.extract 1 s.size).data.toList = s.data.toList.drop 1 := extract_one s
    obtain ⟨t, ht⟩ : ∃ t, t = s.extract 1 s.size := ⟨_, rfl⟩
    rw [← ht] at hx hxl
    rcases dec_cases (s.data.toList.drop 1) with ⟨d1, d2, e1, e2⟩ | ⟨u, hu, d1, d2, e1, e2⟩ | ⟨u, hu, d1, d2, e1, e2⟩
    all_goals
      have e3 : sgnV s.data.toList = _ := (congrArg (·.getD 0) he).trans (neg_get e1)
      have e4 : sgnB s.data.toList = _ := (congrArg (·.isSome) he).trans (neg_some e2)
      rw [e3, e4]
      rw [← hxl] at d1 d2
      clear he e1 e2 e3 e4 hxl
      have ht' : s.extract 1 s.size = t := ht.symm
      clear ht
      go_enter Tryd.func61, Tryd.ntmps61
      go_wp2_with (go_at_call 67; refine (decimal_any t hx _ hL).mono ?_; rintro e w' ⟨rfl, hb⟩)
      go_ret2
      exact ⟨rfl, hb⟩
  · have hE : s.toList.isEmpty = false := by simpa using h1
    rcases dec_cases s.data.toList with ⟨d1, d2, e1, e2⟩ | ⟨u, hu, d1, d2, e1, e2⟩ | ⟨u, hu, d1, d2, e1, e2⟩
    all_goals
      rw [show sgnV s.data.toList = _ from (congrArg (·.getD 0) he).trans e1, show sgnB s.data.toList = _ from (congrArg (·.isSome) he).trans e2]
      clear he e1 e2
      go_enter Tryd.func61, Tryd.ntmps61
      go_wp2_with (go_at_call 67; refine (decimal_any s hs _ hL).mono ?_; rintro e w' ⟨rfl, hb⟩)
      go_ret2
      exact ⟨rfl, hb⟩
end Go.Proofs.YtfcmnkhfmofioaaDoor

namespace Go.Proofs.YtfcmnkhfmofioaaDoor

/-- The words of what is left, a word being under way. -/
def wd : List UInt8 → List UInt8 → List (List UInt8)
  | cur, [] => if cur = [] then [] else [cur]
  | cur, c :: r => if c = 32 then (if cur = [] then wd [] r else cur :: wd [] r) else wd (cur ++ [c]) r
/-- What is still to come at place k, the word under way having begun at place a. -/
def restL (l : List UInt8) (a k : Nat) : List (List UInt8) := if k ≤ l.length then wd ((l.take k).drop a) (l.drop k) else []
def mkB (l : List UInt8) : ByteArray := ⟨l.toArray⟩
def restW (s : ByteArray) (a k : Nat) : List ByteArray := (restL s.data.toList a k).map mkB
def wordsB (s : ByteArray) : List ByteArray := restW s 0 0

theorem restL_go (l : List UInt8) (a k : Nat) (h : k < l.length) (ha : a ≤ k) (hc : l[k] ≠ 32) : restL l a k = restL l a (k + 1) := by
  unfold restL
  rw [if_pos (by omega), if_pos (by omega), List.drop_eq_getElem_cons h]
  simp only [wd]
  rw [if_neg hc, List.take_succ_eq_append_getElem h, List.drop_append_of_le_length (by rw [List.length_take]; omega)]
theorem cur_nil (l : List UInt8) (a k : Nat) (hk : k ≤ l.length) : (l.take k).drop a = [] ↔ k ≤ a := by
  rw [List.drop_eq_nil_iff, List.length_take]
  omega
theorem restL_new (l : List UInt8) (k : Nat) (h : k < l.length) : restL l (k + 1) (k + 1) = wd [] (l.drop (k + 1)) := by
  unfold restL
  rw [if_pos (by omega), (cur_nil l (k + 1) (k + 1) (by omega)).2 (Nat.le_refl _)]
theorem restL_word (l : List UInt8) (a k : Nat) (hk : k ≤ l.length) (ha : a < k) (hc : ∀ h : k < l.length, l[k] = 32) : restL l a k = ((l.take k).drop a) :: restL l (k + 1) (k + 1) := by
  have hne : ¬ (l.take k).drop a = [] := by rw [cur_nil l a k hk]; omega
  rcases Nat.lt_or_ge k l.length with h | h
  · rw [restL_new l k h]
    unfold restL
    rw [if_pos hk, List.drop_eq_getElem_cons h]
    simp only [wd]
    rw [if_pos (hc h), if_neg hne]
  · unfold restL
    rw [if_pos hk, if_neg (by omega), List.drop_of_length_le (i := k) (l := l) h]
    simp only [wd]
    rw [if_neg hne]
theorem restL_skip (l : List UInt8) (a k : Nat) (hk : k ≤ l.length) (ha : k ≤ a) (hc : ∀ h : k < l.length, l[k] = 32) : restL l a k = restL l (k + 1) (k + 1) := by
  have hne : (l.take k).drop a = [] := (cur_nil l a k hk).2 ha
  rcases Nat.lt_or_ge k l.length with h | h
  · rw [restL_new l k h]
    unfold restL
    rw [if_pos hk, List.drop_eq_getElem_cons h]
    simp only [wd]
    rw [if_pos (hc h), if_pos hne]
  · unfold restL
    rw [if_pos hk, if_neg (by omega), List.drop_of_length_le (i := k) (l := l) h]
    simp only [wd]
    rw [if_pos hne]
theorem restL_end (l : List UInt8) (a k : Nat) (h : l.length < k) : restL l a k = [] := by unfold restL; rw [if_neg (by omega)]

theorem extract_mk (s : ByteArray) (a k : Nat) : s.extract a k = mkB ((s.data.toList.take k).drop a) := by
  apply ByteArray.ext
  rw [ByteArray.data_extract]
  apply Array.ext'
  rw [Array.toList_extract]
  simp only [List.extract, mkB]
  rw [List.drop_take]

theorem wd_len : ∀ (r cur : List UInt8), (wd cur r).length ≤ r.length + 1
  | [], cur => by simp only [wd]; split <;> simp
  | c :: r, cur => by
    simp only [wd]
    split
    · split
      · have := wd_len r []; simp only [List.length_cons]; omega
      · have := wd_len r []; simp only [List.length_cons]; omega
    · have := wd_len r (cur ++ [c]); simp only [List.length_cons]; omega
theorem wordsB_len (s : ByteArray) : (wordsB s).length ≤ s.size + 1 := by
  have h := wd_len s.data.toList []
  rw [size_list] at h
  simp only [wordsB, restW, List.length_map, restL, Nat.zero_le, if_true, List.take_zero, List.drop_zero, List.drop_nil]
  exact h
end Go.Proofs.YtfcmnkhfmofioaaDoor
