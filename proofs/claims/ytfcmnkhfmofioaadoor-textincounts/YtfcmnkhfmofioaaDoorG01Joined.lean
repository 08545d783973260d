/- What the listed package-level variables give to a walk: the table of powers of ten holds its numbers, and the two sentinel errors of strconv hold interface values; each goes on holding so whatever a call does at its own blocks. Conditions: the row's own list is met at the start. What Decimal and Show of package num answer, and what memory they leave: Show(u) is u's decimal numeral; Decimal(s) is the number that s spells where s has at most 40 bytes, is digits alone and lies below 2^64, else none. Conditions: the listed variables hold what the program's text lays. What Signed of package num answers: the number of a Decimal of at most 2^40, with or without a minus ahead, else none. Conditions: the listed variables hold what the program's text lays. The words of a line, as a plain function: the longest pieces without a blank, from the left. Conditions: none. Requests of the text dialect, as values: what chapter 14 says. Conditions: none. Worlds that go on: what is new, what is written. Conditions: none. Memory in parts: what a part says hangs on its own blocks alone, and parts that stand beside each other share none. Conditions: none. -/
import Derived.Test.YtfcmnkhfmofioaaDoorRows
import Derived.Test.YtfcmnkhfmofioaaDoorShelf
import Derived.WalkKit
import Derived.WalkSmall
import Derived.Stop.LaidErr
import Derived.Lib.LaidTab
import Derived.Lib.ItoaNum
import Derived.LaidMore
import Derived.MakeChecks
import Derived.Lib.Walk
import Derived.Lib.ItoaMem
import Derived.Lib.ParseUintOr
import Derived.Lib.AtoiErrMem
import Derived.BigCall
import Derived.BigGuard
import Derived.Test.YtfcmnkhfmofioaaDoorG00Joined
import Derived.Laws.AppendOwn
import Derived.Maps.AppendAt
import Derived.Laws.OwnMore
import Derived.RangeFuncNested
import Derived.RangeFuncBox
namespace Go.Proofs.YtfcmnkhfmofioaaDoor
open Go.RowKit

theorem own : ownKnob Tryd.prog.godebug = none := by kernel_rfl
theorem laidOut : laidOutB Tryd.prog = true := by kernel_rfl
theorem gTab : Tryd.prog.globalNamed "internal/strconv.uint64pow10" = some 3 := by kernel_rfl
theorem gTabType : (Tryd.prog.globals[3]?).map (·.type) = some 123 := by kernel_rfl
theorem gSyn : Tryd.prog.globalNamed "strconv.ErrSyntax" = some 1 := by kernel_rfl
theorem gSynType : (Tryd.prog.globals[1]?).map (·.type) = some 97 := by kernel_rfl
theorem gRng : Tryd.prog.globalNamed "strconv.ErrRange" = some 2 := by kernel_rfl
theorem gRngType : (Tryd.prog.globals[2]?).map (·.type) = some 97 := by kernel_rfl
theorem cellsTab : Tryd.prog.cellsOf 123 = 20 := by kernel_rfl
theorem cells_u64 : Tryd.prog.cellsOf 37 = 1 := by kernel_rfl
theorem cells_es : Tryd.prog.cellsOf 114 = 1 := by kernel_rfl
theorem cells_str : Tryd.prog.cellsOf 9 = 1 := by kernel_rfl
theorem star : "*" ++ "errors.errorString" = "*errors.errorString" := by decide
theorem rowEs (u : TypeId) (h : Tryd.prog.typeName? 3 u = some "*errors.errorString") : u = 112 :=
  typeName_ptr_named (nm := "errors.errorString") (by rw [star]; kernel_rfl) (by kernel_rfl) (by decide) u (by rw [star]; exact h)

/-- What every call below needs of the start's memory. -/
structure Laid (w : World) : Prop where
  tab : Lib.TabIs Tryd.prog w "internal/strconv.uint64pow10" .u64 Lib.pow10Tab
  syn : ∃ tp p, w.var? Tryd.prog "strconv.ErrSyntax" = some #[.iface tp p]
  rng : ∃ tp p, w.var? Tryd.prog "strconv.ErrRange" = some #[.iface tp p]

theorem var_on {n : String} {cs : Array Value} {w w' : World} (h : w.var? Tryd.prog n = some cs) (hb : Below w.heap.size w w') : w'.var? Tryd.prog n = some cs := by
  unfold World.var? at h ⊢
  cases hg : Tryd.prog.globalNamed n with
  | none => simp [hg] at h
  | some g =>
    simp only [hg, Option.bind_some] at h ⊢
    have hlt : g < w.heap.size := by
      rcases Nat.lt_or_ge g w.heap.size with h' | h'
      · exact h'
      · rw [Array.getElem?_eq_none h'] at h; simp at h
    rw [hb.block g hlt]
    exact h

theorem Laid.on {w w' : World} (h : Laid w) (hb : Below w.heap.size w w') : Laid w' :=
  ⟨var_on h.tab hb, by obtain ⟨tp, p, hv⟩ := h.syn; exact ⟨tp, p, var_on hv hb⟩, by obtain ⟨tp, p, hv⟩ := h.rng; exact ⟨tp, p, var_on hv hb⟩⟩

/-- The five variables as the rows list them. -/
def five : List (String × DataW Unit) := [("math/bits.deBruijn32tab", Rows.laid_math_bits_deBruijn32tab), ("math/bits.deBruijn64tab", Rows.laid_math_bits_deBruijn64tab), ("internal/strconv.uint64pow10", Rows.laid_internal_strconv_uint64pow10), ("strconv.ErrRange", Rows.laid_strconv_ErrRange), ("strconv.ErrSyntax", Rows.laid_strconv_ErrSyntax)]

theorem laid_of {W : World} (h : laidMetH Tryd.prog five W) : Laid W := by
  rw [MakeChecks.laidMetH_plain _ _ _ (by kernel_rfl)] at h
  have h3 : laidMet Tryd.prog (("internal/strconv.uint64pow10", Lib.tabData .u64 Lib.pow10Tab) :: [("strconv.ErrRange", Rows.laid_strconv_ErrRange), ("strconv.ErrSyntax", Rows.laid_strconv_ErrSyntax)]) W := h.tail.tail
  have h4 := h3.tail
  have h5 := h4.tail
  obtain ⟨a1, s1, hv1, -, -, -⟩ := laid_sentinel h4 gRng gRngType Tryd.underlying97 rowEs Tryd.underlying112 Tryd.underlying114 rfl rfl Tryd.underlying9 cells_es cells_str
  obtain ⟨a2, s2, hv2, -, -, -⟩ := laid_sentinel h5 gSyn gSynType Tryd.underlying97 rowEs Tryd.underlying112 Tryd.underlying114 rfl rfl Tryd.underlying9 cells_es cells_str
  exact ⟨Lib.tabIs_of_head gTab gTabType Tryd.underlying123 Tryd.underlying37 cells_u64 cellsTab h3, ⟨_, _, hv2⟩, ⟨_, _, hv1⟩⟩

/-- The heap that the initialisers' own run leaves meets the list. -/
theorem door_met (os : Os) (args : Array Value) : laidMetH Tryd.prog five ((World.doorLaid Tryd.prog 62 os).forCall (fun _ _ => 0) ⟨#[], args, []⟩).memory :=
  laidMetH_of_parts3 (fuel := 8) (laidMet_of_run' 8 (by kernel_rfl) (by kernel_rfl)) (by kernel_rfl) (by kernel_rfl)
end Go.Proofs.YtfcmnkhfmofioaaDoor

namespace Go.Proofs.YtfcmnkhfmofioaaDoor
open Go.RowKit Go.Sort

/-- The number that Decimal answers, or none. -/
def dec (l : List UInt8) : Option Nat := if 40 < l.length then none else match Lib.parseUintB 64 l with | .ok u => some u | _ => none
def decV (l : List UInt8) : Int := ((dec l).getD 0 : Nat)
def decB (l : List UInt8) : Bool := (dec l).isSome

theorem size_list (s : ByteArray) : s.data.toList.length = s.size := by rw [Array.length_toList]; rfl

theorem parse_no (s : ByteArray) (hlim : s.size ≤ 281474976710656) (h0 : ∀ u, Lib.parseUintB 64 s.data.toList ≠ .ok u) (h1 : Lib.parseUintB 64 s.data.toList ≠ .range) (tp : TypeId) (p : Value) (w : World) (hvar : w.var? Tryd.prog "strconv.ErrSyntax" = some #[.iface tp p]) :
    Calls Tryd.prog 71 #[.string s, .int .i64 10, .int .i64 64] w fun e w' => ∃ N, e = .returned (.tuple #[.int .u64 0, .iface 104 (.pointer (some ⟨N, 0, none⟩))]) ∧ Below w.heap.size w w' := by
  rcases h : Lib.parseUintB 64 s.data.toList with u | _ | _
  · exact absurd h (h0 u)
  · exact (Any.strconv_ParseUint_10_at64_syntax_var Tryd.laysPu14 s hlim h tp p w hvar).mono fun e w' ⟨N, he, _, _, hb⟩ => ⟨N, he, hb⟩
  · exact absurd h h1

set_option maxRecDepth 100000 in
theorem decimal_any (s : ByteArray) (hs : s.size ≤ 140737488351232) (w : World) (hL : Laid w) :
    Calls Tryd.prog 67 #[.string s] w fun e w' => e = .returned (.tuple #[.int .u64 (decV s.data.toList), .bool (decB s.data.toList)]) ∧ Below w.heap.size w w' := by
  have hl := size_list s
  by_cases h40 : 40 < s.size
  · have hi : (40 : Int) < (s.size : Int) := by omega
    have e1 : decV s.data.toList = 0 := by simp [decV, dec, hl, h40]
    have e2 : decB s.data.toList = false := by simp [decB, dec, hl, h40]
    rw [e1, e2]
    clear e1 e2 hl
    go_enter Tryd.func67, Tryd.ntmps67
    go_wp2
    go_ret2
    exact ⟨rfl, Below.refl _ _⟩
  · have hi : ¬ (40 : Int) < (s.size : Int) := by omega
    obtain ⟨tp0, p0, hv0⟩ := hL.syn
    obtain ⟨tp1, p1, hv1⟩ := hL.rng
    rcases h : Lib.parseUintB 64 s.data.toList with u | _ | _
    · have e1 : decV s.data.toList = u := by simp [decV, dec, hl, h40, h]
      have e2 : decB s.data.toList = true := by simp [decB, dec, hl, h40, h]
      rw [e1, e2]
      clear e1 e2 hl hL hv0 hv1
      go_enter Tryd.func67, Tryd.ntmps67
      go_wp2_with (go_at_call 71; refine (Tryd.strconv_ParseUint_10_at64_ok s (by omega) u h _).mono ?_; rintro e w' ⟨rfl, hw⟩)
      go_wp2
      go_ret2
      refine ⟨rfl, ?_⟩
      rcases hw with rfl | rfl
      · exact Below.refl _ _
      · exact Lib.bytesWorld_below _ _ _
    · have e1 : decV s.data.toList = 0 := by simp [decV, dec, hl, h40, h]
      have e2 : decB s.data.toList = false := by simp [decB, dec, hl, h40, h]
      rw [e1, e2]
      clear e1 e2 hl hL hv1
      go_enter Tryd.func67, Tryd.ntmps67
      go_wp2_with (go_at_call 71; refine (parse_no s (by omega) (by rw [h]; intro u hu; cases hu) (by rw [h]; intro hu; cases hu) tp0 p0 _ hv0).mono ?_; rintro e W1 ⟨N, rfl, hb⟩)
      go_wp2
      go_ret2
      exact ⟨rfl, hb⟩
    · have e1 : decV s.data.toList = 0 := by simp [decV, dec, hl, h40, h]
      have e2 : decB s.data.toList = false := by simp [decB, dec, hl, h40, h]
      rw [e1, e2]
      clear e1 e2 hl hL hv0
      go_enter Tryd.func67, Tryd.ntmps67
      go_wp2_with (go_at_call 71; refine (Tryd.strconv_ParseUint_10_at64_range_var s (by omega) h tp1 p1 _ hv1).mono ?_; rintro e W1 ⟨N, rfl, -, -, hb⟩)
      go_wp2
      go_ret2
      exact ⟨rfl, hb⟩
end Go.Proofs.YtfcmnkhfmofioaaDoor

namespace Go.Proofs.YtfcmnkhfmofioaaDoor
open Go.RowKit

/-- A Decimal of at most 2^40, or none. -/
def small40 (l : List UInt8) : Option Int := match dec l with | some u => if u ≤ 1099511627776 then some (u : Int) else none | none => none
/-- The number that Signed answers, or none. -/
def sgn (l : List UInt8) : Option Int := if l.head? = some 45 then (small40 (l.drop 1)).map (fun z => -z) else small40 l
def sgnV (l : List UInt8) : Int := (sgn l).getD 0
def sgnB (l : List UInt8) : Bool := (sgn l).isSome

theorem dec_cases (l : List UInt8) :
    (decV l = 0 ∧ decB l = false ∧ (small40 l).getD 0 = 0 ∧ (small40 l).isSome = false) ∨
    (∃ u : Nat, (1099511627776 : Int) < (u : Int) ∧ decV l = (u : Int) ∧ decB l = true ∧ (small40 l).getD 0 = 0 ∧ (small40 l).isSome = false) ∨
    (∃ u : Nat, (u : Int) ≤ 1099511627776 ∧ decV l = (u : Int) ∧ decB l = true ∧ (small40 l).getD 0 = (u : Int) ∧ (small40 l).isSome = true) := by
  cases h : dec l with
  | none => exact .inl ⟨by simp [decV, h], by simp [decB, h], by simp [small40, h], by simp [small40, h]⟩
  | some u =>
    by_cases hu : u ≤ 1099511627776
    · exact .inr (.inr ⟨u, by omega, by simp [decV, h], by simp [decB, h], by simp [small40, h, hu], by simp [small40, h, hu]⟩)
    · exact .inr (.inl ⟨u, by omega, by simp [decV, h], by simp [decB, h], by simp [small40, h, hu], by simp [small40, h, hu]⟩)
theorem neg_get {o : Option Int} {x : Int} (h : o.getD 0 = x) : (o.map (fun z => -z)).getD 0 = -x := by subst h; cases o <;> simp
theorem neg_some {o : Option Int} {b : Bool} (h : o.isSome = b) : (o.map (fun z => -z)).isSome = b := by cases o <;> simp_all
theorem extract_one (s : ByteArray) : (s.extract 1 s.size).data.toList = s.data.toList.drop 1 := by
  rw [ByteArray.data_extract, Array.toList_extract]
  simp only [List.extract]
  rw [List.take_of_length_le]
  have hl := size_list s
  rw [List.length_drop]
  omega
theorem head_at (s : ByteArray) (hp : 0 < s.size) : s.data.toList.head? = some (s[0]'hp) := by
  have hl := size_list s
  rw [List.head?_eq_getElem?, List.getElem?_eq_getElem (by omega)]
  rfl
theorem sgn_cases (s : ByteArray) :
    (s.toList = [] ∧ s.size = 0 ∧ sgn s.data.toList = small40 s.data.toList) ∨
    (¬ s.toList = [] ∧ ∃ hp : 0 < s.size, ((s[0]'hp).toNat : Int) = 45 ∧ sgn s.data.toList = (small40 (s.data.toList.drop 1)).map (fun z => -z)) ∨
    (¬ s.toList = [] ∧ ∃ hp : 0 < s.size, ¬ ((s[0]'hp).toNat : Int) = 45 ∧ sgn s.data.toList = small40 s.data.toList) := by
  have hl := size_list s
  by_cases h0 : s.size = 0
  · have he : s.data.toList = [] := List.eq_nil_of_length_eq_zero (by omega)
    exact .inl ⟨by rw [ByteArray.toList_eq, he], h0, by simp [sgn, he]⟩
  · have hp : 0 < s.size := by omega
    have hne : ¬ s.toList = [] := by rw [ByteArray.toList_eq]; intro he; rw [he] at hl; simp at hl; omega
    by_cases h45 : ((s[0]'hp).toNat : Int) = 45
    · have e : (s[0]'hp) = 45 := by apply UInt8.toNat_inj.1; have : ((45 : UInt8).toNat : Int) = 45 := by decide
                                    omega
      exact .inr (.inl ⟨hne, hp, h45, by unfold sgn; rw [head_at s hp, e, if_pos rfl]⟩)
    · have e : ¬ (s[0]'hp) = 45 := by intro e; rw [e] at h45; exact h45 (by decide)
      exact .inr (.inr ⟨hne, hp, h45, by unfold sgn; rw [head_at s hp, if_neg (by simpa using e)]⟩)

set_option maxHeartbeats 2000000 in
theorem signed_any (s : ByteArray) (hs : s.size ≤ 140737488351232) (w : World) (hL : Laid w) :
    Calls Tryd.prog 61 #[.string s] w fun e w' => e = .returned (.tuple #[.int .i64 (sgnV s.data.toList), .bool (sgnB s.data.toList)]) ∧ Below w.heap.size w w' := by
  rcases sgn_cases s with ⟨h1, h0, he⟩ | ⟨h1, hp, h45, he⟩ | ⟨h1, hp, h45, he⟩
  · rcases dec_cases s.data.toList with ⟨d1, d2, e1, e2⟩ | ⟨u, hu, d1, d2, e1, e2⟩ | ⟨u, hu, d1, d2, e1, e2⟩
    all_goals
      rw [show sgnV s.data.toList = _ from (congrArg (·.getD 0) he).trans e1, show sgnB s.data.toList = _ from (congrArg (·.isSome) he).trans e2]
      clear he e1 e2
      go_enter Tryd.func61, Tryd.ntmps61
      go_wp2_with (go_at_call 67; refine (decimal_any s hs _ hL).mono ?_; rintro e w' ⟨rfl, hb⟩)
      go_ret2
      exact ⟨rfl, hb⟩
  · have hE : s.toList.isEmpty = false := by simpa using h1
    have hx : (s.extract 1 s.size).size ≤ 140737488351232 := by rw [ByteArray.size_extract]; omega
    have hxl : (s.extract 1 s.size).data.toList = s.data.toList.drop 1 := extract_one s
    obtain ⟨t, ht⟩ : ∃ t, t = s.extract 1 s.size := ⟨_, rfl⟩
    rw [← ht] at hx hxl
    rcases dec_cases (s.data.toList.drop 1) with ⟨d1, d2, e1, e2⟩ | ⟨u, hu, d1, d2, e1, e2⟩ | ⟨u, hu, d1, d2, e1, e2⟩
    all_goals
      have e3 : sgnV s.data.toList = _ := (congrArg (·.getD 0) he).trans (neg_get e1)
      have e4 : sgnB s.data.toList = _ := (congrArg (·.isSome) he).trans (neg_some e2)
      rw [e3, e4]
      rw [← hxl] at d1 d2
      clear he e1 e2 e3 e4 hxl
      have ht' : s.extract 1 s.size = t := ht.symm
      clear ht
      go_enter Tryd.func61, Tryd.ntmps61
      go_wp2_with (go_at_call 67; refine (decimal_any t hx _ hL).mono ?_; rintro e w' ⟨rfl, hb⟩)
      go_ret2
      exact ⟨rfl, hb⟩
  · have hE : s.toList.isEmpty = false := by simpa using h1
    rcases dec_cases s.data.toList with ⟨d1, d2, e1, e2⟩ | ⟨u, hu, d1, d2, e1, e2⟩ | ⟨u, hu, d1, d2, e1, e2⟩
    all_goals
      rw [show sgnV s.data.toList = _ from (congrArg (·.getD 0) he).trans e1, show sgnB s.data.toList = _ from (congrArg (·.isSome) he).trans e2]
      clear he e1 e2
      go_enter Tryd.func61, Tryd.ntmps61
      go_wp2_with (go_at_call 67; refine (decimal_any s hs _ hL).mono ?_; rintro e w' ⟨rfl, hb⟩)
      go_ret2
      exact ⟨rfl, hb⟩
end Go.Proofs.YtfcmnkhfmofioaaDoor

namespace Go.Proofs.YtfcmnkhfmofioaaDoor

/-- The words of what is left, a word being under way. -/
def wd : List UInt8 → List UInt8 → List (List UInt8)
  | cur, [] => if cur = [] then [] else [cur]
  | cur, c :: r => if c = 32 then (if cur = [] then wd [] r else cur :: wd [] r) else wd (cur ++ [c]) r
/-- What is still to come at place k, the word under way having begun at place a. -/
def restL (l : List UInt8) (a k : Nat) : List (List UInt8) := if k ≤ l.length then wd ((l.take k).drop a) (l.drop k) else []
def mkB (l : List UInt8) : ByteArray := ⟨l.toArray⟩
def restW (s : ByteArray) (a k : Nat) : List ByteArray := (restL s.data.toList a k).map mkB
def wordsB (s : ByteArray) : List ByteArray := restW s 0 0

theorem restL_go (l : List UInt8) (a k : Nat) (h : k < l.length) (ha : a ≤ k) (hc : l[k] ≠ 32) : restL l a k = restL l a (k + 1) := by
  unfold restL
  rw [if_pos (by omega), if_pos (by omega), List.drop_eq_getElem_cons h]
  simp only [wd]
  rw [if_neg hc, List.take_succ_eq_append_getElem h, List.drop_append_of_le_length (by rw [List.length_take]; omega)]
theorem cur_nil (l : List UInt8) (a k : Nat) (hk : k ≤ l.length) : (l.take k).drop a = [] ↔ k ≤ a := by
  rw [List.drop_eq_nil_iff, List.length_take]
  omega
theorem restL_new (l : List UInt8) (k : Nat) (h : k < l.length) : restL l (k + 1) (k + 1) = wd [] (l.drop (k + 1)) := by
  unfold restL
  rw [if_pos (by omega), (cur_nil l (k + 1) (k + 1) (by omega)).2 (Nat.le_refl _)]
theorem restL_word (l : List UInt8) (a k : Nat) (hk : k ≤ l.length) (ha : a < k) (hc : ∀ h : k < l.length, l[k] = 32) : restL l a k = ((l.take k).drop a) :: restL l (k + 1) (k + 1) := by
  have hne : ¬ (l.take k).drop a = [] := by rw [cur_nil l a k hk]; omega
  rcases Nat.lt_or_ge k l.length with h | h
  · rw [restL_new l k h]
    unfold restL
    rw [if_pos hk, List.drop_eq_getElem_cons h]
    simp only [wd]
    rw [if_pos (hc h), if_neg hne]
  · unfold restL
    rw [if_pos hk, if_neg (by omega), List.drop_of_length_le (i := k) (l := l) h]
    simp only [wd]
    rw [if_neg hne]
theorem restL_skip (l : List UInt8) (a k : Nat) (hk : k ≤ l.length) (ha : k ≤ a) (hc : ∀ h : k < l.length, l[k] = 32) : restL l a k = restL l (k + 1) (k + 1) := by
  have hne : (l.take k).drop a = [] := (cur_nil l a k hk).2 ha
  rcases Nat.lt_or_ge k l.length with h | h
  · rw [restL_new l k h]
    unfold restL
    rw [if_pos hk, List.drop_eq_getElem_cons h]
    simp only [wd]
    rw [if_pos (hc h), if_pos hne]
  · unfold restL
    rw [if_pos hk, if_neg (by omega), List.drop_of_length_le (i := k) (l := l) h]
    simp only [wd]
    rw [if_pos hne]
theorem restL_end (l : List UInt8) (a k : Nat) (h : l.length < k) : restL l a k = [] := by unfold restL; rw [if_neg (by omega)]

theorem extract_mk (s : ByteArray) (a k : Nat) : s.extract a k = mkB ((s.data.toList.take k).drop a) := by
  apply ByteArray.ext
  rw [ByteArray.data_extract]
  apply Array.ext'
  rw [Array.toList_extract]
  simp only [List.extract, mkB]
  rw [List.drop_take]

theorem wd_len : ∀ (r cur : List UInt8), (wd cur r).length ≤ r.length + 1
  | [], cur => by simp only [wd]; split <;> simp
  | c :: r, cur => by
    simp only [wd]
    split
    · split
      · have := wd_len r []; simp only [List.length_cons]; omega
      · have := wd_len r []; simp only [List.length_cons]; omega
    · have := wd_len r (cur ++ [c]); simp only [List.length_cons]; omega
theorem wordsB_len (s : ByteArray) : (wordsB s).length ≤ s.size + 1 := by
  have h := wd_len s.data.toList []
  rw [size_list] at h
  simp only [wordsB, restW, List.length_map, restL, Nat.zero_le, if_true, List.take_zero, List.drop_zero, List.drop_nil]
  exact h
end Go.Proofs.YtfcmnkhfmofioaaDoor

namespace Go.Proofs.YtfcmnkhfmofioaaDoor
/- The words that lines begin with, and the others of the dialect. -/
def vb_get : List UInt8 := [103, 101, 116]
def vb_gets : List UInt8 := [103, 101, 116, 115]
def vb_gat : List UInt8 := [103, 97, 116]
def vb_gats : List UInt8 := [103, 97, 116, 115]
def vb_set : List UInt8 := [115, 101, 116]
def vb_cas : List UInt8 := [99, 97, 115]
def vb_add : List UInt8 := [97, 100, 100]
def vb_replace : List UInt8 := [114, 101, 112, 108, 97, 99, 101]
def vb_append : List UInt8 := [97, 112, 112, 101, 110, 100]
def vb_prepend : List UInt8 := [112, 114, 101, 112, 101, 110, 100]
def vb_delete : List UInt8 := [100, 101, 108, 101, 116, 101]
def vb_incr : List UInt8 := [105, 110, 99, 114]
def vb_decr : List UInt8 := [100, 101, 99, 114]
def vb_touch : List UInt8 := [116, 111, 117, 99, 104]
def vb_flush : List UInt8 := [102, 108, 117, 115, 104, 95, 97, 108, 108]
def vb_version : List UInt8 := [118, 101, 114, 115, 105, 111, 110]
def vb_quit : List UInt8 := [113, 117, 105, 116]
def t_noreply : List UInt8 := [110, 111, 114, 101, 112, 108, 121]
def t_ERROR : List UInt8 := [69, 82, 82, 79, 82]
def t_bad : List UInt8 := [67, 76, 73, 69, 78, 84, 95, 69, 82, 82, 79, 82, 32, 98, 97, 100, 32, 99, 111, 109, 109, 97, 110, 100, 32, 108, 105, 110, 101, 32, 102, 111, 114, 109, 97, 116]
def t_delta : List UInt8 := [67, 76, 73, 69, 78, 84, 95, 69, 82, 82, 79, 82, 32, 105, 110, 118, 97, 108, 105, 100, 32, 110, 117, 109, 101, 114, 105, 99, 32, 100, 101, 108, 116, 97, 32, 97, 114, 103, 117, 109, 101, 110, 116]
def t_chunk : List UInt8 := [67, 76, 73, 69, 78, 84, 95, 69, 82, 82, 79, 82, 32, 98, 97, 100, 32, 100, 97, 116, 97, 32, 99, 104, 117, 110, 107]
def t_long : List UInt8 := [67, 76, 73, 69, 78, 84, 95, 69, 82, 82, 79, 82, 32, 108, 105, 110, 101, 32, 116, 111, 111, 32, 108, 111, 110, 103]
def t_large : List UInt8 := [83, 69, 82, 86, 69, 82, 95, 69, 82, 82, 79, 82, 32, 111, 98, 106, 101, 99, 116, 32, 116, 111, 111, 32, 108, 97, 114, 103, 101, 32, 102, 111, 114, 32, 99, 97, 99, 104, 101]
def t_end : List UInt8 := [13, 10]
/-- The kind of command that a first word asks for. -/
def opN (v : List UInt8) : Option Int :=
  if v = vb_get ∨ v = vb_gets then some 0
  else if v = vb_gat ∨ v = vb_gats then some 1
  else if v = vb_set ∨ v = vb_cas then some 3
  else if v = vb_add then some 4
  else if v = vb_replace then some 5
  else if v = vb_append then some 6
  else if v = vb_prepend then some 7
  else if v = vb_delete then some 8
  else if v = vb_incr then some 10
  else if v = vb_decr then some 11
  else if v = vb_touch then some 2
  else if v = vb_flush then some 13
  else if v = vb_version then some 15
  else if v = vb_quit then some 16
  else none
/-- A request whose line is being read: its form, its commands' parts, the size of its body. -/
structure Dv where
  verb : List UInt8
  dia : Int
  quiet : Bool
  wcas : Bool
  keys : List (List UInt8)
  op : Int
  val : List UInt8
  fl : Int
  exp : Int
  cas : Int
  del : Int
  size : Int
  sized : Bool
def zeroD : Dv := ⟨[], 0, false, false, [], 0, [], 0, 0, 0, 0, 0, false⟩
def begun (v : List UInt8) : Dv := ⟨v, 1, false, decide (v = vb_gets ∨ v = vb_gats), [], (opN v).getD 0, [], 0, 0, 0, 0, 0, false⟩
/-- May a command be quiet? -/
def mayQ (op : Int) : Bool := !(decide (op = 0 ∨ op = 1 ∨ op = 15 ∨ op = 16))
def quietN (op : Int) (ws : List (List UInt8)) (many : Nat) : Bool := mayQ op && decide (ws.length = many + 1) && decide (ws[many]? = some t_noreply)
/-- How each word behind the first is read: 0 a key, 1 EXP, 2 DELTA, 3 FLAGS, 4 BYTES, 5 CAS. -/
def partsN (op : Int) (v : List UInt8) (ws : List (List UInt8)) : List Nat :=
  if op = 0 then List.replicate (max ws.length 1) 0
  else if op = 1 then 1 :: List.replicate (max (ws.length - 1) 1) 0
  else if 3 ≤ op ∧ op ≤ 7 then (if v = vb_cas then [0, 3, 1, 4, 5] else [0, 3, 1, 4])
  else if op = 8 then [0]
  else if op = 10 ∨ op = 11 then [0, 2]
  else if op = 2 then [0, 1]
  else if op = 13 then (if ws ≠ [] ∧ quietN op ws 0 = false then [1] else [])
  else []
def faultK (k : Nat) : List UInt8 := if k = 2 then t_delta else t_bad
def mostK (k : Nat) : Nat := if k = 3 then 4294967295 else 18446744073709551615
def keepK (k : Nat) (d : Dv) (u : Nat) : Dv :=
  if k = 2 then { d with del := u }
  else if k = 3 then { d with fl := u }
  else if k = 4 then { d with size := u, sized := true }
  else { d with cas := u }
/-- One word is read: what is known then, and its fault, if it has one. -/
def readW (k : Nat) (d : Dv) (x : List UInt8) : Dv × List UInt8 :=
  if k = 0 then ({ d with keys := d.keys ++ [x] }, if keyN x = true ∧ d.keys.length + 1 ≤ 16 then [] else t_bad)
  else if k = 1 then (match sgn x with | some z => ({ d with exp := z }, []) | none => (d, t_bad))
  else match dec x with
    | some u => if u ≤ mostK k then (keepK k d u, []) else (d, faultK k)
    | none => (d, faultK k)
/-- The words are read, one by one; the first fault is kept. -/
def runR : List Nat → List (List UInt8) → Dv → List UInt8 → Dv × List UInt8
  | k :: ks, x :: xs, d, f => runR ks xs (readW k d x).1 (if f = [] then (readW k d x).2 else f)
  | _, _, d, f => (d, f)
def largeN (r : Dv × List UInt8) : Dv × List UInt8 := (r.1, if r.2 = [] ∧ 1000 < r.1.size then t_large else r.2)
/-- The words behind a first one that there is. -/
def behindN (v : List UInt8) (ws : List (List UInt8)) : Dv × List UInt8 :=
  let d := begun v
  let ks := partsN d.op v ws
  let q := quietN d.op ws ks.length
  let d1 := if q then { d with quiet := true } else d
  let ws1 := if q then ws.take ks.length else ws
  if ws1.length = ks.length then largeN (runR ks ws1 d1 []) else (d1, t_ERROR)
def readN : List (List UInt8) → Dv × List UInt8
  | [] => (zeroD, t_ERROR)
  | v :: ws => if opN v = none then (begun v, t_ERROR) else behindN v ws
/-- What package textin's draft reads: the size of the body is not held against its bound yet. -/
def rawB (v : List UInt8) (ws : List (List UInt8)) : Dv × List UInt8 :=
  let d := begun v
  let ks := partsN d.op v ws
  let q := quietN d.op ws ks.length
  let d1 := if q then { d with quiet := true } else d
  let ws1 := if q then ws.take ks.length else ws
  if ws1.length = ks.length then runR ks ws1 d1 [] else (d1, t_ERROR)
def rawN : List (List UInt8) → Dv × List UInt8
  | [] => (zeroD, t_ERROR)
  | v :: ws => if opN v = none then (begun v, t_ERROR) else rawB v ws
theorem large_error (d : Dv) : largeN (d, t_ERROR) = (d, t_ERROR) := by
  unfold largeN
  rw [if_neg (fun h => by cases h.1)]
theorem readN_raw (ws : List (List UInt8)) : readN ws = largeN (rawN ws) := by
  cases ws with
  | nil => exact (large_error zeroD).symm
  | cons v ws =>
    show (if opN v = none then (begun v, t_ERROR) else behindN v ws) = largeN (if opN v = none then (begun v, t_ERROR) else rawB v ws)
    split
    · exact (large_error _).symm
    · unfold behindN rawB
      simp only []
      rw [apply_ite largeN, large_error]
def skipN (d : Dv) : Int := if d.sized = true ∧ d.size ≤ 1073741824 then d.size + 2 else 0
def cmdD (d : Dv) (key : List UInt8) : Cv := ⟨d.op, mkB key, d.val, d.fl, d.exp, d.cas, d.del, 0, false, false⟩
def formD (d : Dv) : Fv := ⟨d.dia, mkB d.verb, 0, 0, d.quiet, d.wcas, ⟨#[]⟩, [], d.keys.map mkB, false⟩
def reqD (d : Dv) : Qv := ⟨if d.keys = [] then [cmdD d []] else d.keys.map (cmdD d), formD d⟩
def moreS : Sv := ⟨noQ, ⟨#[]⟩, 0, 0, false, 3⟩
def refuseS (f : List UInt8) (used : Int) : Sv := ⟨noQ, mkB (f ++ t_end), used, 0, false, 2⟩
/-- A line's request, with its body out of what is behind it. -/
def finishN (d : Dv) (rest : List UInt8) (used : Int) : Sv :=
  if d.sized = false then ⟨reqD d, ⟨#[]⟩, used, 0, false, 0⟩
  else if (bodyN rest d.size).2.2 = 3 then moreS
  else if (bodyN rest d.size).2.2 = 2 then { refuseS t_chunk (used + (bodyN rest d.size).2.1) with line := true }
  else ⟨reqD { d with val := (bodyN rest d.size).1 }, ⟨#[]⟩, used + (bodyN rest d.size).2.1, 0, false, 0⟩
def lineS (ws : List (List UInt8)) (rest : List UInt8) (used : Int) : Sv :=
  if (readN ws).2 = [] then finishN (readN ws).1 rest used else { refuseS (readN ws).2 used with skip := skipN (readN ws).1 }
def wordsL (l : List UInt8) : List (List UInt8) := restL l 0 0
/-- P14.1 to P14.4. -/
def parseN (l : List UInt8) : Sv :=
  if (lineN l).2.2 = 3 then moreS
  else if (lineN l).2.2 = 4 then { refuseS t_long (lineN l).2.1 with line := (cutL l).isNone }
  else lineS (wordsL (lineN l).1) (l.drop (lineN l).2.1.toNat) (lineN l).2.1
theorem wordsB_L (s : ByteArray) : wordsB s = (wordsL s.data.toList).map mkB := rfl
end Go.Proofs.YtfcmnkhfmofioaaDoor

namespace Go.Proofs.YtfcmnkhfmofioaaDoor
open Go.RowKit

theorem gr_refl (w : World) (row : Option Nat) : w.grownBy w row := ⟨rfl, rfl, rfl, Nat.le_refl _, fun _ _ _ => rfl⟩
theorem gr_any {a b : World} (h : a.grownBy b none) (row : Option Nat) : a.grownBy b row := ⟨h.1, h.2, h.3, h.4, fun k hk _ => h.5 k hk (by simp)⟩
theorem gr_trans {a b c : World} {row : Option Nat} (h : a.grownBy b row) (k : b.grownBy c row) : a.grownBy c row :=
  ⟨k.1.trans h.1, k.2.trans h.2, k.3.trans h.3, Nat.le_trans h.4 k.4, fun i hi hr => (k.5 i (Nat.lt_of_lt_of_le hi h.4) hr).trans (h.5 i hi hr)⟩
/-- What is written is new. -/
theorem gr_new {a b c : World} {row : Option Nat} {n : Nat} (h : a.grownBy b row) (k : b.grownBy c (some n)) (hn : a.heap.size ≤ n) : a.grownBy c row :=
  ⟨k.1.trans h.1, k.2.trans h.2, k.3.trans h.3, Nat.le_trans h.4 k.4, fun i hi hr => (k.5 i (Nat.lt_of_lt_of_le hi h.4) (fun e => by cases e; omega)).trans (h.5 i hi hr)⟩
theorem gr_below {w a b : World} {row : Option Nat} (hB : Below w.heap.size w a) (h : a.grownBy b row) (hr : ∀ n, row = some n → w.heap.size ≤ n) : Below w.heap.size w b := hB.grown h hB.size hr
theorem gr_of_below {a b : World} (h : Below a.heap.size a b) : a.grownBy b none := ⟨h.os, h.tape, h.output, h.size, fun k hk _ => h.block k hk⟩
theorem below_gr {a b : World} (h : a.grownBy b none) : Below a.heap.size a b := (Below.refl _ _).grown h (Nat.le_refl _) (fun _ e => by cases e)
/-- The world goes on, and writes at most what F names and what is new. -/
structure Gr (F : Nat → Prop) (w w' : World) : Prop where
  os : w'.os = w.os
  tape : w'.tape = w.tape
  output : w'.output = w.output
  size : w.heap.size ≤ w'.heap.size
  block : ∀ k, k < w.heap.size → ¬ F k → w'.heap[k]? = w.heap[k]?
theorem Gr.refl (F : Nat → Prop) (w : World) : Gr F w w := ⟨rfl, rfl, rfl, Nat.le_refl _, fun _ _ _ => rfl⟩
theorem Gr.trans {F : Nat → Prop} {a b c : World} (h : Gr F a b) (k : Gr F b c) : Gr F a c :=
  ⟨k.os.trans h.os, k.tape.trans h.tape, k.output.trans h.output, Nat.le_trans h.size k.size, fun i hi hr => (k.block i (Nat.lt_of_lt_of_le hi h.size) hr).trans (h.block i hi hr)⟩
/-- What the second step writes besides is new. -/
theorem Gr.then {F G : Nat → Prop} {a b c : World} (h : Gr F a b) (k : Gr G b c) (hG : ∀ i, i < a.heap.size → G i → F i) : Gr F a c :=
  ⟨k.os.trans h.os, k.tape.trans h.tape, k.output.trans h.output, Nat.le_trans h.size k.size, fun i hi hr => (k.block i (Nat.lt_of_lt_of_le hi h.size) (fun hg => hr (hG i hi hg))).trans (h.block i hi hr)⟩
theorem Gr.below {F : Nat → Prop} {w a b : World} (hB : Below w.heap.size w a) (h : Gr F a b) (hF : ∀ k, F k → w.heap.size ≤ k) : Below w.heap.size w b :=
  ⟨h.os.trans hB.os, h.tape.trans hB.tape, h.output.trans hB.output, Nat.le_trans hB.size h.size, fun k hk => (h.block k (Nat.lt_of_lt_of_le hk hB.size) (fun hf => by have := hF k hf; omega)).trans (hB.block k hk)⟩
theorem Gr.of {w w' : World} {row : Option Nat} (h : w.grownBy w' row) : Gr (fun k => row = some k) w w' := ⟨h.1, h.2, h.3, h.4, fun k hk hr => h.5 k hk (fun e => hr e.symm)⟩
theorem Gr.to {F : Nat → Prop} {w w' : World} {row : Option Nat} (h : Gr F w w') (hF : ∀ k, F k → row = some k) : w.grownBy w' row := ⟨h.os, h.tape, h.output, h.size, fun k hk hr => h.block k hk (fun hf => hr (hF k hf).symm)⟩
/-- What it owns behind a step was its own, or is new. -/
def Grew (w : World) (own own' : Nat → Prop) : Prop := ∀ k, own' k → own k ∨ w.heap.size ≤ k
end Go.Proofs.YtfcmnkhfmofioaaDoor

namespace Go.Proofs.YtfcmnkhfmofioaaDoor
open Go.RowKit

structure Part where
  own : Nat → Prop
  q : World → Prop
  on : ∀ w1 w2 : World, q w1 → (∀ k, own k → w2.heap[k]? = w1.heap[k]?) → q w2
def Part.emp : Part := ⟨fun _ => False, fun _ => True, fun _ _ _ _ => trivial⟩
/-- Two parts beside each other. -/
def Part.and (A B : Part) : Part where
  own := fun k => A.own k ∨ B.own k
  q := fun w => A.q w ∧ B.q w ∧ ∀ k, A.own k → ¬ B.own k
  on := fun w1 w2 h hs => ⟨A.on w1 w2 h.1 fun k hk => hs k (.inl hk), B.on w1 w2 h.2.1 fun k hk => hs k (.inr hk), h.2.2⟩
/-- Where a statement stands that began at w0: nothing of that world is written, and all its parts are new. -/
structure Law (w0 w : World) (A : Part) : Prop where
  below : Below w0.heap.size w0 w
  q : A.q w
  lt : ∀ k, A.own k → w0.heap.size ≤ k ∧ k < w.heap.size
section
variable {w0 w w' w1 : World} {A A' B C R R' : Part}
theorem Law.start (w : World) : Law w w Part.emp := ⟨Below.refl _ _, trivial, fun _ h => h.elim⟩
theorem Law.ofBelow (h : Below w0.heap.size w0 w) : Law w0 w Part.emp := ⟨h, trivial, fun _ h => h.elim⟩
theorem Law.step (H : Law w0 w A) (hg : w.grownBy w' none) : Law w0 w' A :=
  ⟨gr_below H.below hg (fun _ e => by cases e), A.on w w' H.q fun k hk => hg.block k (H.lt k hk).2 (by simp), fun k hk => ⟨(H.lt k hk).1, Nat.lt_of_lt_of_le (H.lt k hk).2 hg.size⟩⟩
theorem Law.drew (H : Law w0 w A) : Law w0 w.drew A := H.step ⟨rfl, rfl, rfl, Nat.le_refl _, fun _ _ _ => rfl⟩
theorem Law.drewN (H : Law w0 w A) (j : Nat) : Law w0 (w.drewN j) A := H.step ⟨rfl, rfl, rfl, Nat.le_refl _, fun _ _ _ => rfl⟩
theorem Law.alloc (H : Law w0 w A) (o : Obj) : Law w0 (w.alloc o) A := H.step (World.grownBy_alloc w o none)
/-- The first part turns. -/
theorem Law.turn (H : Law w0 w (A.and R)) (hq : A'.q w') (hl : ∀ k, A'.own k → k < w'.heap.size) (hg : Gr A.own w w') (hgr : Grew w A.own A'.own) : Law w0 w' (A'.and R) := by
  refine ⟨Gr.below H.below hg (fun k hk => (H.lt k (.inl hk)).1), ⟨hq, R.on w w' H.q.2.1 fun k hk => hg.block k (H.lt k (.inr hk)).2 (fun ha => H.q.2.2 k ha hk), fun k ha hr => ?_⟩, ?_⟩
  · rcases hgr k ha with h | h
    · exact H.q.2.2 k h hr
    · exact Nat.not_lt_of_le h (H.lt k (.inr hr)).2
  · rintro k (hk | hk)
    · refine ⟨?_, hl k hk⟩
      rcases hgr k hk with h | h
      · exact (H.lt k (.inl h)).1
      · exact Nat.le_trans H.below.size h
    · exact ⟨(H.lt k (.inr hk)).1, Nat.lt_of_lt_of_le (H.lt k (.inr hk)).2 hg.size⟩
/-- A new part. -/
theorem Law.new (H : Law w0 w R) (hg : w.grownBy w' none) (hq : A.q w') (hn : ∀ k, A.own k → w.heap.size ≤ k ∧ k < w'.heap.size) : Law w0 w' (A.and R) := by
  have S := H.step hg
  refine ⟨S.below, ⟨hq, S.q, fun k ha hr => Nat.not_lt_of_le (hn k ha).1 (H.lt k hr).2⟩, ?_⟩
  rintro k (hk | hk)
  · exact ⟨Nat.le_trans H.below.size (hn k hk).1, (hn k hk).2⟩
  · exact S.lt k hk
theorem Law.comm (H : Law w0 w (A.and B)) : Law w0 w (B.and A) := ⟨H.below, ⟨H.q.2.1, H.q.1, fun k hb ha => H.q.2.2 k ha hb⟩, fun k hk => H.lt k hk.symm⟩
theorem Law.rot (H : Law w0 w (A.and (B.and C))) : Law w0 w (B.and (A.and C)) := by
  obtain ⟨hA, ⟨hB, hC, hBC⟩, hx⟩ := H.q
  refine ⟨H.below, ⟨hB, ⟨hA, hC, fun k ha hc => hx k ha (.inr hc)⟩, ?_⟩, ?_⟩
  · rintro k hb (ha | hc)
    · exact hx k ha (.inl hb)
    · exact hBC k hb hc
  · rintro k (hk | hk | hk)
    · exact H.lt k (.inr (.inl hk))
    · exact H.lt k (.inl hk)
    · exact H.lt k (.inr (.inr hk))
theorem and_rot_q {w : World} {B C D : Part} (h : (B.and (C.and D)).q w) : (C.and (B.and D)).q w := by
  obtain ⟨hA, ⟨hB, hC, hBC⟩, hx⟩ := h
  refine ⟨hB, ⟨hA, hC, fun k ha hc => hx k ha (.inr hc)⟩, ?_⟩
  rintro k hb (ha | hc)
  · exact hx k ha (.inl hb)
  · exact hBC k hb hc
theorem and_rot_own {B C D : Part} (k : Nat) (h : (C.and (B.and D)).own k) : (B.and (C.and D)).own k := by
  rcases h with h | h | h
  · exact .inr (.inl h)
  · exact .inl h
  · exact .inr (.inr h)
theorem Law.assoc (H : Law w0 w ((A.and B).and C)) : Law w0 w (A.and (B.and C)) := by
  obtain ⟨⟨hA, hB, hAB⟩, hC, hx⟩ := H.q
  refine ⟨H.below, ⟨hA, ⟨hB, hC, fun k hb hc => hx k (.inr hb) hc⟩, ?_⟩, ?_⟩
  · rintro k ha (hb | hc)
    · exact hAB k ha hb
    · exact hx k (.inl ha) hc
  · rintro k (hk | hk | hk)
    · exact H.lt k (.inl (.inl hk))
    · exact H.lt k (.inl (.inr hk))
    · exact H.lt k (.inr hk)
theorem Law.unassoc (H : Law w0 w (A.and (B.and C))) : Law w0 w ((A.and B).and C) := by
  obtain ⟨hA, ⟨hB, hC, hBC⟩, hx⟩ := H.q
  refine ⟨H.below, ⟨⟨hA, hB, fun k ha hb => hx k ha (.inl hb)⟩, hC, ?_⟩, ?_⟩
  · rintro k (ha | hb) hc
    · exact hx k ha (.inr hc)
    · exact hBC k hb hc
  · rintro k ((hk | hk) | hk)
    · exact H.lt k (.inl hk)
    · exact H.lt k (.inr (.inl hk))
    · exact H.lt k (.inr (.inr hk))
theorem Law.left (H : Law w0 w (A.and B)) : Law w0 w A := ⟨H.below, H.q.1, fun k hk => H.lt k (.inl hk)⟩
theorem Law.right (H : Law w0 w (A.and B)) : Law w0 w B := ⟨H.below, H.q.2.1, fun k hk => H.lt k (.inr hk)⟩
theorem Law.drop2 (H : Law w0 w (A.and (B.and C))) : Law w0 w (A.and C) := H.rot.right
/-- Less is known. -/
theorem Law.weak (H : Law w0 w A) (hq : A.q w → B.q w) (ho : ∀ k, B.own k → A.own k) : Law w0 w B := ⟨H.below, hq H.q, fun k hk => H.lt k (ho k hk)⟩
theorem Law.weak1 (H : Law w0 w (A.and R)) (hq : A.q w → A'.q w) (ho : ∀ k, A'.own k → A.own k) : Law w0 w (A'.and R) :=
  ⟨H.below, ⟨hq H.q.1, H.q.2.1, fun k ha hr => H.q.2.2 k (ho k ha) hr⟩, fun k hk => H.lt k (hk.imp (ho k) id)⟩
theorem Law.in1 (H : Law w0 w (A.and R)) (hq : R.q w → R'.q w) (ho : ∀ k, R'.own k → R.own k) : Law w0 w (A.and R') := (H.comm.weak1 hq ho).comm
theorem Law.inAssoc {D : Part} (H : Law w0 w (A.and ((B.and C).and D))) : Law w0 w (A.and (B.and (C.and D))) := by
  refine H.in1 (fun hq => ?_) fun k hk => ?_
  · obtain ⟨⟨hA, hB, hAB⟩, hC, hx⟩ := hq
    refine ⟨hA, ⟨hB, hC, fun k hb hc => hx k (.inr hb) hc⟩, ?_⟩
    rintro k ha (hb | hc)
    · exact hAB k ha hb
    · exact hx k (.inl ha) hc
  · rcases hk with hk | hk | hk
    · exact .inl (.inl hk)
    · exact .inl (.inr hk)
    · exact .inr hk
theorem Law.inUnassoc {D : Part} (H : Law w0 w (A.and (B.and (C.and D)))) : Law w0 w (A.and ((B.and C).and D)) := by
  refine H.in1 (fun hq => ?_) fun k hk => ?_
  · obtain ⟨hA, ⟨hB, hC, hBC⟩, hx⟩ := hq
    refine ⟨⟨hA, hB, fun k ha hb => hx k ha (.inl hb)⟩, hC, ?_⟩
    rintro k (ha | hb) hc
    · exact hx k ha (.inr hc)
    · exact hBC k hb hc
  · rcases hk with (hk | hk) | hk
    · exact .inl hk
    · exact .inr (.inl hk)
    · exact .inr (.inr hk)
/-- The second and the third part change places. -/
theorem Law.rin {D : Part} (H : Law w0 w (A.and (B.and (C.and D)))) : Law w0 w (A.and (C.and (B.and D))) := H.in1 (fun h => and_rot_q h) fun k hk => and_rot_own k hk
end
theorem own_same {w w' : World} {n0 n size : Nat} {e : TypeId} {v : Value} {xs : List Value} (h : w.ownsRow n0 e size v n xs) (hs : ∀ k, v.ownBlock = some k → w'.heap[k]? = w.heap[k]?) : w'.ownsRow n0 e size v n xs := by
  refine ⟨h.1, ?_⟩
  rcases h.2 with h1 | ⟨g, cap, cur, hv, h2, h3, h4⟩
  · exact .inl h1
  · exact .inr ⟨g, cap, cur, hv, h2, (hs g (by rw [hv]; rfl)).trans h3, h4⟩
theorem own_form {W : World} {base : Nat} {e : TypeId} {size : Nat} {v : Value} {k : Nat} {xs : List Value} (h : W.ownsRow base e size v k xs) (hk : 0 < k) : ∃ g cap, v = .slice (some ⟨g, 0, none⟩) k cap := by
  rcases h.2 with h1 | ⟨g, cap, cur, hv, h2, h3, h4⟩
  · omega
  · exact ⟨g, cap, hv⟩
theorem own_shape {W : World} {base : Nat} {e : TypeId} {size : Nat} {v : Value} {k : Nat} {xs : List Value} (h : W.ownsRow base e size v k xs) : ∃ a cap, v = .slice a k cap := by
  rcases h.2 with ⟨hv, h1⟩ | ⟨g, cap, cur, hv, h2, h3, h4⟩
  · exact ⟨none, 0, by rw [hv, h1]⟩
  · exact ⟨_, cap, hv⟩
theorem own_cap {w : World} {base n cap size : Nat} {a : Option Addr} {e : TypeId} {xs : List Value} (h : w.ownsRow base e size (.slice a n cap) n xs) : n ≤ cap ∧ cap ≤ maxLen := by
  rcases h.2 with ⟨h1, h2⟩ | ⟨g', cap', cur, hv, _, _, h4, h5, _⟩
  · cases h1
    exact ⟨Nat.le_refl _, Nat.zero_le _⟩
  · cases hv
    exact ⟨h4, h5⟩
theorem own_at {W : World} {base : Nat} {e : TypeId} {size : Nat} {v : Value} {n k : Nat} {xs : List Value} (h : W.ownsRow base e size v n xs) (hk : v.ownBlock = some k) : base ≤ k ∧ k < W.heap.size ∧ ∃ o : Obj, W.heap[k]? = some o ∧ o.isCells = true := by
  rcases h.2 with ⟨hv, h1⟩ | ⟨g, cap, cur, hv, h2, h3, h4⟩
  · rw [hv] at hk
    cases hk
  · rw [hv] at hk
    cases hk
    exact ⟨h2, (Array.getElem?_eq_some_iff.1 h3).1, _, h3, rfl⟩
/-- A block. -/
def boxP (k : Nat) (o : Obj) : Part := ⟨fun j => j = k, fun w => w.heap[k]? = some o, fun _ _ h hs => (hs k rfl).trans h⟩
/-- A slice that owns its row, from block n0 on. -/
def rowP (n0 : Nat) (e : TypeId) (size : Nat) (v : Value) (n : Nat) (xs : List Value) : Part := ⟨fun k => v.ownBlock = some k, fun w => w.ownsRow n0 e size v n xs, fun _ _ h hs => own_same h hs⟩
section
variable {w0 w w' w1 : World} {A A' B C R R' : Part} {e t : TypeId} {size n m n0 k : Nat} {v v' x y : Value} {xs ys : List Value} {tmp : Obj}
theorem Law.box (H : Law w0 w R) (o : Obj) : Law w0 (w.alloc o) ((boxP w.heap.size o).and R) :=
  H.new (World.grownBy_alloc w o none) (World.alloc_heap_new w o) (by rintro k rfl; rw [World.size_alloc]; exact ⟨Nat.le_refl _, Nat.lt_succ_self _⟩)
theorem Law.nil (H : Law w0 w R) : Law w0 w ((rowP n0 e size (.slice none 0 0) 0 []).and R) :=
  ⟨H.below, ⟨World.ownsRow_nil _ _ _ _, H.q, fun k ha => by cases ha⟩, fun k hk => hk.elim (fun h => by cases h) (H.lt k)⟩
theorem Law.set (H : Law w0 w ((boxP k (.cells #[x] t)).and R)) (y : Value) : Law w0 (w.setCell ⟨k, 0, none⟩ y) ((boxP k (.cells #[y] t)).and R) := by
  have hb : Boxed w k t x := H.q.1
  refine H.turn (A' := boxP k (.cells #[y] t)) (show Boxed _ k t y from hb.set y) (fun j hj => ?_) ?_ fun j hj => .inl hj
  · rw [World.size_setCell]
    exact (H.lt j (.inl hj)).2
  · have hg := grownBy_setCell' w k y
    exact ⟨hg.1, hg.2, hg.3, hg.4, fun j hj hn => hg.5 j hj (fun e => hn (by cases e; rfl))⟩
theorem Law.setAt {cs : Array Value} (H : Law w0 w ((boxP k (.cells cs t)).and R)) (i : Nat) (y : Value) : Law w0 (w.setCell ⟨k, i, none⟩ y) ((boxP k (.cells (cs.setIfInBounds i y) t)).and R) := by
  refine H.turn (A' := boxP k (.cells (cs.setIfInBounds i y) t)) (heap_setCell_same w k i cs t y H.q.1) (fun j hj => ?_) ?_ fun j hj => .inl hj
  · rw [World.size_setCell]
    exact (H.lt j (.inl hj)).2
  · exact ⟨rfl, rfl, rfl, by rw [World.size_setCell]; exact Nat.le_refl _, fun j _ hn => heap_setCell_other _ _ _ _ hn⟩
/-- More is appended to the first part's row. -/
theorem Law.app (H : Law w0 w ((rowP n0 e size v n xs).and R)) (hown : w1.ownsRow n0 e size v' m ys) (hgrow : (w.alloc tmp).grownBy w1 v.ownBlock) (hat : v'.ownBlock = v.ownBlock ∨ v'.ownBlock = some (w.alloc tmp).heap.size) : Law w0 w1 ((rowP n0 e size v' m ys).and R) := by
  have hsa : (w.alloc tmp).heap.size = w.heap.size + 1 := World.size_alloc _ _
  have hs1 := hgrow.size
  refine H.turn hown (fun k hk => (own_at hown hk).2.1) ⟨hgrow.1, hgrow.2, hgrow.3, by omega, fun k hk hr => (hgrow.block k (by omega) (fun e => hr e.symm)).trans (Below.heap_alloc _ _ _ hk)⟩ fun k hk => ?_
  rcases hat with h | h
  · exact .inl (h.symm.trans hk)
  · have hk' : v'.ownBlock = some k := hk
    rw [h] at hk'
    cases hk'
    exact .inr (by omega)
/-- The same where nothing was laid ahead of it. -/
theorem Law.app0 (H : Law w0 w ((rowP n0 e size v n xs).and R)) (hown : w1.ownsRow n0 e size v' m ys) (hgrow : w.grownBy w1 v.ownBlock) (hat : v'.ownBlock = v.ownBlock ∨ v'.ownBlock = some w.heap.size) : Law w0 w1 ((rowP n0 e size v' m ys).and R) := by
  refine H.turn hown (fun k hk => (own_at hown hk).2.1) ⟨hgrow.1, hgrow.2, hgrow.3, hgrow.size, fun k hk hr => hgrow.block k hk (fun e => hr e.symm)⟩ fun k hk => ?_
  rcases hat with h | h
  · exact .inl (h.symm.trans hk)
  · have hk' : v'.ownBlock = some k := hk
    rw [h] at hk'
    cases hk'
    exact .inr (Nat.le_refl _)
end
/-- No loop's record lies among its blocks. -/
def Part.firm (B : Nat) (A : Part) : Prop := ∀ (W : World) (k : Nat), A.q W → A.own k → k < B ∨ ∃ o : Obj, W.heap[k]? = some o ∧ o.isCells = true
theorem firm_and {B : Nat} {A C : Part} (h : A.firm B) (h' : C.firm B) : (A.and C).firm B := fun W k hq ho => ho.elim (h W k hq.1) (h' W k hq.2.1)
theorem firm_emp {B : Nat} : Part.emp.firm B := fun _ _ _ ho => ho.elim
theorem firm_box {B k : Nat} {cs : Array Value} {t : TypeId} {z : Nat × Nat} : (boxP k (.cells cs t z)).firm B := fun _ j hq ho => by
  obtain rfl : j = k := ho
  exact .inr ⟨_, hq, rfl⟩
theorem firm_row {B n0 : Nat} {e : TypeId} {size : Nat} {v : Value} {n : Nat} {xs : List Value} : (rowP n0 e size v n xs).firm B := fun _ _ hq ho => .inr (own_at hq ho).2.2
theorem firm_old {B : Nat} {A : Part} (h : ∀ k, A.own k → k < B) : A.firm B := fun _ k _ ho => .inl (h k ho)
theorem own_law {β : Type} {B : Nat} {w0 : World} {A : β → Part} (hB : w0.heap.size ≤ B) (hf : ∀ s, (A s).firm B) : OwnFrom B (fun s W => Law w0 W (A s)) := fun s W W' row hs hg hr => by
  have key : ∀ k, (A s).own k → W'.heap[k]? = W.heap[k]? := fun k hk => hg.block k (hs.lt k hk).2 (fun e => by
    obtain ⟨h1, o, ho, hc⟩ := hr k e.symm
    rcases hf s W k hs.q hk with h | ⟨o', ho', hc'⟩
    · omega
    · rw [ho] at ho'
      cases ho'
      rw [hc] at hc'
      cases hc')
  exact ⟨gr_below hs.below hg (fun r e => Nat.le_trans hB (hr r e).1), (A s).on W W' hs.q key, fun k hk => ⟨(hs.lt k hk).1, Nat.lt_of_lt_of_le (hs.lt k hk).2 hg.size⟩⟩
/-- What is kept in mind beside an iterator's own memory. -/
theorem lasts_law {α β : Type} {B : Nat} {w0 : World} {it : Part} {G : List α → β → Part} {C : List α → β → Prop} (hB : w0.heap.size ≤ B) (hit : ∀ k, it.own k → k < B) : ∀ pre V V' fp, (∃ v, fp = (G pre v).own ∧ Law w0 V (it.and (G pre v)) ∧ C pre v) → Gr (fun k => B ≤ k) V V' → (∀ k, fp k → V'.heap[k]? = V.heap[k]?) → ∃ v, fp = (G pre v).own ∧ Law w0 V' (it.and (G pre v)) ∧ C pre v := by
  rintro pre V V' fp ⟨v, rfl, H, hC⟩ hg hs
  refine ⟨v, rfl, ⟨Gr.below H.below hg (fun k hk => Nat.le_trans hB hk), ⟨it.on V V' H.q.1 fun k hk => hg.block k (H.lt k (.inl hk)).2 (by have := hit k hk; omega), (G pre v).on V V' H.q.2.1 hs, H.q.2.2⟩, fun k hk => ⟨(H.lt k hk).1, Nat.lt_of_lt_of_le (H.lt k hk).2 hg.size⟩⟩, hC⟩
theorem foot_law {α β : Type} {w0 : World} {it : Part} {G : List α → β → Part} {C : List α → β → Prop} : ∀ pre V fp, (∃ v, fp = (G pre v).own ∧ Law w0 V (it.and (G pre v)) ∧ C pre v) → ∀ k, fp k → k < V.heap.size ∧ ¬ it.own k := by
  rintro pre V fp ⟨v, rfl, H, hC⟩ k hk
  exact ⟨(H.lt k (.inr hk)).2, fun ho => H.q.2.2 k ho hk⟩
/-- One more is appended to a slice that lies in a box. -/
theorem app_store {w0 W w1 : World} {it R : Part} {n0 n m bo : Nat} {e t : TypeId} {size : Nat} {v v' : Value} {xs ys : List Value} {tmp : Obj} (H : Law w0 W (it.and ((rowP n0 e size v n xs).and ((boxP bo (.cells #[v] t)).and R))))
    (hown : w1.ownsRow n0 e size v' m ys) (hgrow : (W.alloc tmp).grownBy w1 v.ownBlock) (hat : v'.ownBlock = v.ownBlock ∨ v'.ownBlock = some (W.alloc tmp).heap.size) :
    Boxed w1 bo t v ∧ Law w0 (w1.setCell ⟨bo, 0, none⟩ v') (it.and ((rowP n0 e size v' m ys).and ((boxP bo (.cells #[v'] t)).and R))) ∧ Gr ((rowP n0 e size v n xs).and ((boxP bo (.cells #[v] t)).and R)).own W (w1.setCell ⟨bo, 0, none⟩ v') ∧
      Grew W ((rowP n0 e size v n xs).and ((boxP bo (.cells #[v] t)).and R)).own ((rowP n0 e size v' m ys).and ((boxP bo (.cells #[v'] t)).and R)).own := by
  have hsa : (W.alloc tmp).heap.size = W.heap.size + 1 := World.size_alloc _ _
  have hs1 := hgrow.size
  have H1 := (H.rot).app hown hgrow hat
  have H2 := H1.rin.rot
  refine ⟨H2.q.1, ((H2.set v').rin.rot.rin), ?_, ?_⟩
  · have g1 : Gr (fun k => v.ownBlock = some k) W w1 := ⟨hgrow.1, hgrow.2, hgrow.3, by omega, fun k hk hr => (hgrow.block k (by omega) (fun e => hr e.symm)).trans (Below.heap_alloc _ _ _ hk)⟩
    have g2 := grownBy_setCell' w1 bo v'
    have g3 : Gr (fun k => k = bo) w1 (w1.setCell ⟨bo, 0, none⟩ v') := ⟨g2.1, g2.2, g2.3, g2.4, fun j hj hn => g2.5 j hj (fun e => hn (by cases e; rfl))⟩
    have m1 : Gr ((rowP n0 e size v n xs).and ((boxP bo (.cells #[v] t)).and R)).own W w1 := ⟨g1.os, g1.tape, g1.output, g1.size, fun k hk hn => g1.block k hk fun h => hn (.inl h)⟩
    exact ⟨g3.os.trans m1.os, g3.tape.trans m1.tape, g3.output.trans m1.output, Nat.le_trans m1.size g3.size, fun k hk hn => (g3.block k (Nat.lt_of_lt_of_le hk m1.size) fun h => hn (.inr (.inl h))).trans (m1.block k hk hn)⟩
  · rintro k (hk | hk)
    · rcases hat with h | h
      · exact .inl (.inl (h.symm.trans hk))
      · have hk' : v'.ownBlock = some k := hk
        rw [h] at hk'
        cases hk'
        exact .inr (by omega)
    · exact .inl (.inr hk)
theorem own_ex {β γ : Type} {B : Nat} {I : β → γ → World → Prop} (h : OwnFrom B (fun (p : β × γ) W => I p.1 p.2 W)) : OwnFrom B (fun s W => ∃ x, I s x W) := fun s W W' row ⟨x, hs⟩ hg hr => ⟨x, h (s, x) W W' row hs hg hr⟩
end Go.Proofs.YtfcmnkhfmofioaaDoor
