/- What the walks of every layer share. Conditions: none of the program's variables is read. Commands, and how they were said, as values. Conditions: none. Lines and bodies, as lists of bytes: what chapter 13 says. Conditions: none. What the listed package-level variables give to a walk: the table of powers of ten holds its numbers, and the two sentinel errors of strconv hold interface values; each goes on holding so whatever a call does at its own blocks. Conditions: the row's own list is met at the start. What Decimal and Show of package num answer, and what memory they leave: Show(u) is u's decimal numeral; Decimal(s) is the number that s spells where s has at most 40 bytes, is digits alone and lies below 2^64, else none. Conditions: the listed variables hold what the program's text lays. -/
import Derived.Test.YthofdmepofepgaaDoorRows
import Derived.WalkKit
import Derived.WalkSmall
import Derived.OwnWalk
import Derived.WalkSpells
import Derived.Lib.Hide
import Derived.Lib.Bytealg
import Derived.Test.YthofdmepofepgaaDoorShelf
import Derived.Stop.LaidErr
import Derived.Lib.LaidTab
import Derived.Lib.ItoaNum
import Derived.LaidMore
import Derived.MakeChecks
import Derived.Lib.Walk
import Derived.Lib.ItoaMem
import Derived.Lib.ParseUintOr
import Derived.Lib.AtoiErrMem
import Derived.BigCall
import Derived.BigGuard
namespace Go.Proofs.YthofdmepofepgaaDoor
open Go.RowKit

theorem own : ownKnob Tryd.prog.godebug = none := by kernel_rfl
theorem laidOut : laidOutB Tryd.prog = true := by kernel_rfl
theorem Bt {w w1 w2 : World} (h : Below w.heap.size w w1) (k : Below w1.heap.size w1 w2) : Below w.heap.size w w2 := h.trans (k.mono h.size)
theorem hide {p : Prop} (h : p) : Hid p := h
theorem ret_bool {b : Bool} (h : b = true) : Ending.returned (.bool b) = .returned (.bool true) := by rw [h]
theorem u64_wf {a : Int} (h : (Lit.int .u64 a).wf = true) : 0 ≤ a ∧ a < 18446744073709551616 := by
  have e1 : IntKind.u64.min = 0 := rfl
  have e2 : IntKind.u64.max = 18446744073709551615 := rfl
  simp [Lit.wf, e1, e2] at h
  omega
theorem i64_wf {a : Int} (h : (Lit.int .i64 a).wf = true) : -9223372036854775808 ≤ a ∧ a < 9223372036854775808 := by
  have e1 : IntKind.i64.min = -9223372036854775808 := rfl
  have e2 : IntKind.i64.max = 9223372036854775807 := rfl
  simp [Lit.wf, e1, e2] at h
  omega
theorem u8_wf {a : Int} (h : (Lit.int .u8 a).wf = true) : 0 ≤ a ∧ a ≤ 255 := by
  have e1 : IntKind.u8.min = 0 := rfl
  have e2 : IntKind.u8.max = 255 := rfl
  simp [Lit.wf, e1, e2] at h
  omega
end Go.Proofs.YthofdmepofepgaaDoor

namespace Go.Proofs.YthofdmepofepgaaDoor

/-- A command as a value, its bytes with it. -/
structure Cv where
  op : Int
  key : ByteArray
  val : List UInt8
  fl : Int
  exp : Int
  cas : Int
  del : Int
  ini : Int
  makes : Bool
  sets : Bool
/-- How a request was said. -/
structure Fv where
  dia : Int
  verb : ByteArray
  code : Int
  opq : Int
  quiet : Bool
  wcas : Bool
  flags : ByteArray
  toks : List ByteArray
  keys : List ByteArray
  b64 : Bool
/-- A request. -/
structure Qv where
  cmds : List Cv
  form : Fv
/-- What the first bytes of a connection are. -/
structure Sv where
  req : Qv
  reply : ByteArray
  used : Int
  skip : Int
  line : Bool
  e : Int
def noF : Fv := ⟨0, ⟨#[]⟩, 0, 0, false, false, ⟨#[]⟩, [], [], false⟩
def noQ : Qv := ⟨[], noF⟩
end Go.Proofs.YthofdmepofepgaaDoor

namespace Go.Proofs.YthofdmepofepgaaDoor

/-- What is ahead of the first line feed, and what is behind it. -/
def cutL : List UInt8 → Option (List UInt8 × List UInt8)
  | [] => none
  | c :: l => if c = 10 then some ([], l) else (cutL l).map fun x => (c :: x.1, x.2)
theorem cutL_of : ∀ (p r : List UInt8), (10 : UInt8) ∉ p → cutL (p ++ 10 :: r) = some (p, r)
  | [], r, _ => by simp [cutL]
  | c :: p, r, h => by
    have hc : c ≠ 10 := fun e => h (by simp [e])
    have hp : (10 : UInt8) ∉ p := fun e => h (by simp [e])
    show cutL (c :: (p ++ 10 :: r)) = _
    rw [cutL, if_neg hc, cutL_of p r hp]
    rfl
theorem cutL_no : ∀ (l : List UInt8), (10 : UInt8) ∉ l → cutL l = none
  | [], _ => rfl
  | c :: l, h => by
    have hc : c ≠ 10 := fun e => h (by simp [e])
    have hp : (10 : UInt8) ∉ l := fun e => h (by simp [e])
    rw [cutL, if_neg hc, cutL_no l hp]
    rfl
/-- Bytes have no line feed, or a first one. -/
theorem feeds : ∀ (l : List UInt8), (10 : UInt8) ∉ l ∨ ∃ p r, l = p ++ 10 :: r ∧ (10 : UInt8) ∉ p
  | [] => .inl (by simp)
  | c :: l => by
    by_cases hc : c = 10
    · exact .inr ⟨[], l, by rw [hc]; rfl, by simp⟩
    · rcases feeds l with h | ⟨p, r, h1, h2⟩
      · exact .inl (by simp; exact ⟨fun e => hc e.symm, h⟩)
      · exact .inr ⟨c :: p, r, by rw [h1]; rfl, by simp; exact ⟨fun e => hc e.symm, h2⟩⟩
/-- The first line feed's place; -1: there is none. -/
def feedI (l : List UInt8) : Int := match cutL l with
  | none => -1
  | some x => x.1.length
theorem feedI_of {p r : List UInt8} (h : (10 : UInt8) ∉ p) : feedI (p ++ 10 :: r) = p.length := by unfold feedI; rw [cutL_of p r h]
theorem feedI_no {l : List UInt8} (h : (10 : UInt8) ∉ l) : feedI l = -1 := by unfold feedI; rw [cutL_no l h]
theorem feedI_lib : ∀ (l : List UInt8), Lib.indexByte l 10 = feedI l
  | [] => rfl
  | c :: l => by
    have ih := feedI_lib l
    unfold Lib.indexByte
    by_cases hc : c = 10
    · subst hc
      rfl
    · have hb : (c == 10) = false := by simpa using hc
      rw [hb, ih]
      unfold feedI
      rw [cutL, if_neg hc]
      cases hk : cutL l with
      | none => rfl
      | some x => simp
/-- A line without one carriage return at its end. -/
def noCR (p : List UInt8) : List UInt8 := if p.getLast? = some 13 then p.dropLast else p
theorem noCR_snoc (p : List UInt8) : noCR (p ++ [13]) = p := by simp [noCR]
theorem noCR_len (p : List UInt8) : (noCR p).length ≤ p.length ∧ p.length ≤ (noCR p).length + 1 := by
  unfold noCR
  split
  · rw [List.length_dropLast]; omega
  · omega
theorem noCR_take (p : List UInt8) : noCR p = p.take (noCR p).length := by
  unfold noCR
  split
  · rw [List.length_dropLast, List.dropLast_eq_take]
  · rw [List.take_length]
/-- P13.1: the line, how many bytes, the error. -/
def lineN (l : List UInt8) : List UInt8 × Int × Int := match cutL l with
  | none => if 2049 < l.length then ([], l.length, 4) else ([], 0, 3)
  | some x => if 2048 < (noCR x.1).length then ([], x.1.length + 1, 4) else (noCR x.1, x.1.length + 1, 0)
theorem lineN_of {p r : List UInt8} (h : (10 : UInt8) ∉ p) : lineN (p ++ 10 :: r) = if 2048 < (noCR p).length then ([], (p.length : Int) + 1, 4) else (noCR p, (p.length : Int) + 1, 0) := by unfold lineN; rw [cutL_of p r h]
theorem lineN_no {l : List UInt8} (h : (10 : UInt8) ∉ l) : lineN l = if 2049 < l.length then ([], (l.length : Int), 4) else ([], 0, 3) := by unfold lineN; rw [cutL_no l h]
/-- P13.2: the body, how many bytes, the error. -/
def bodyN (l : List UInt8) (n : Int) : List UInt8 × Int × Int :=
  if n < 0 ∨ 1000 < n then ([], 0, 2)
  else if (l.length : Int) < n + 2 then ([], 0, 3)
  else if (l.drop n.toNat).take 2 = [13, 10] then (l.take n.toNat, n + 2, 0)
  else ([], n, 2)
/-- P13.3: how many are passed over, how many are still to be, and whether a line feed is. -/
def passN (l : List UInt8) (skip : Int) (line : Bool) : Int × Int × Bool :=
  let s := if skip < 0 then 0 else skip
  if (l.length : Int) < s then (l.length, s - l.length, line)
  else if line = false then (s, 0, false)
  else if feedI (l.drop s.toNat) < 0 then (l.length, 0, true)
  else (s + feedI (l.drop s.toNat) + 1, 0, false)
/-- P13.4. -/
def keyedN (l : List UInt8) : Bool := decide (1 ≤ l.length) && decide (l.length ≤ 250)
def signN (c : UInt8) : Bool := decide (32 < c.toNat) && decide (c.toNat ≠ 127)
def keyN (l : List UInt8) : Bool := keyedN l && l.all signN
end Go.Proofs.YthofdmepofepgaaDoor

namespace Go.Proofs.YthofdmepofepgaaDoor
open Go.RowKit

theorem own : ownKnob Tryd.prog.godebug = none := by kernel_rfl
theorem laidOut : laidOutB Tryd.prog = true := by kernel_rfl
theorem gTab : Tryd.prog.globalNamed "internal/strconv.uint64pow10" = some 3 := by kernel_rfl
theorem gTabType : (Tryd.prog.globals[3]?).map (·.type) = some 114 := by kernel_rfl
theorem gSyn : Tryd.prog.globalNamed "strconv.ErrSyntax" = some 1 := by kernel_rfl
theorem gSynType : (Tryd.prog.globals[1]?).map (·.type) = some 88 := by kernel_rfl
theorem gRng : Tryd.prog.globalNamed "strconv.ErrRange" = some 2 := by kernel_rfl
theorem gRngType : (Tryd.prog.globals[2]?).map (·.type) = some 88 := by kernel_rfl
theorem cellsTab : Tryd.prog.cellsOf 114 = 20 := by kernel_rfl
theorem cells_u64 : Tryd.prog.cellsOf 36 = 1 := by kernel_rfl
theorem cells_es : Tryd.prog.cellsOf 105 = 1 := by kernel_rfl
theorem cells_str : Tryd.prog.cellsOf 9 = 1 := by kernel_rfl
theorem star : "*" ++ "errors.errorString" = "*errors.errorString" := by decide
theorem rowEs (u : TypeId) (h : Tryd.prog.typeName? 3 u = some "*errors.errorString") : u = 103 :=
  typeName_ptr_named (nm := "errors.errorString") (by rw [star]; kernel_rfl) (by kernel_rfl) (by decide) u (by rw [star]; exact h)

/-- What every call below needs of the start's memory. -/
structure Laid (w : World) : Prop where
  tab : Lib.TabIs Tryd.prog w "internal/strconv.uint64pow10" .u64 Lib.pow10Tab
  syn : ∃ tp p, w.var? Tryd.prog "strconv.ErrSyntax" = some #[.iface tp p]
  rng : ∃ tp p, w.var? Tryd.prog "strconv.ErrRange" = some #[.iface tp p]

theorem var_on {n : String} {cs : Array Value} {w w' : World} (h : w.var? Tryd.prog n = some cs) (hb : Below w.heap.size w w') : w'.var? Tryd.prog n = some cs := by
  unfold World.var? at h ⊢
  cases hg : Tryd.prog.globalNamed n with
  | none => simp [hg] at h
  | some g =>
    simp only [hg, Option.bind_some] at h ⊢
    have hlt : g < w.heap.size := by
      rcases Nat.lt_or_ge g w.heap.size with h' | h'
      · exact h'
      · rw [Array.getElem?_eq_none h'] at h; simp at h
    rw [hb.block g hlt]
    exact h

theorem Laid.on {w w' : World} (h : Laid w) (hb : Below w.heap.size w w') : Laid w' :=
  ⟨var_on h.tab hb, by obtain ⟨tp, p, hv⟩ := h.syn; exact ⟨tp, p, var_on hv hb⟩, by obtain ⟨tp, p, hv⟩ := h.rng; exact ⟨tp, p, var_on hv hb⟩⟩

/-- The five variables as the rows list them. -/
def five : List (String × DataW Unit) := [("math/bits.deBruijn32tab", Rows.laid_math_bits_deBruijn32tab), ("math/bits.deBruijn64tab", Rows.laid_math_bits_deBruijn64tab), ("internal/strconv.uint64pow10", Rows.laid_internal_strconv_uint64pow10), ("strconv.ErrRange", Rows.laid_strconv_ErrRange), ("strconv.ErrSyntax", Rows.laid_strconv_ErrSyntax)]

theorem laid_of {W : World} (h : laidMetH Tryd.prog five W) : Laid W := by
  rw [MakeChecks.laidMetH_plain _ _ _ (by kernel_rfl)] at h
  have h3 : laidMet Tryd.prog (("internal/strconv.uint64pow10", Lib.tabData .u64 Lib.pow10Tab) :: [("strconv.ErrRange", Rows.laid_strconv_ErrRange), ("strconv.ErrSyntax", Rows.laid_strconv_ErrSyntax)]) W := h.tail.tail
  have h4 := h3.tail
  have h5 := h4.tail
  obtain ⟨a1, s1, hv1, -, -, -⟩ := laid_sentinel h4 gRng gRngType Tryd.underlying88 rowEs Tryd.underlying103 Tryd.underlying105 rfl rfl Tryd.underlying9 cells_es cells_str
  obtain ⟨a2, s2, hv2, -, -, -⟩ := laid_sentinel h5 gSyn gSynType Tryd.underlying88 rowEs Tryd.underlying103 Tryd.underlying105 rfl rfl Tryd.underlying9 cells_es cells_str
  exact ⟨Lib.tabIs_of_head gTab gTabType Tryd.underlying114 Tryd.underlying36 cells_u64 cellsTab h3, ⟨_, _, hv2⟩, ⟨_, _, hv1⟩⟩

/-- The heap that the initialisers' own run leaves meets the list. -/
theorem door_met (os : Os) (args : Array Value) : laidMetH Tryd.prog five ((World.doorLaid Tryd.prog 62 os).forCall (fun _ _ => 0) ⟨#[], args, []⟩).memory :=
  laidMetH_of_parts3 (fuel := 8) (laidMet_of_run' 8 (by kernel_rfl) (by kernel_rfl)) (by kernel_rfl) (by kernel_rfl)
end Go.Proofs.YthofdmepofepgaaDoor

namespace Go.Proofs.YthofdmepofepgaaDoor
open Go.RowKit Go.Sort

/-- The number that Decimal answers, or none. -/
def dec (l : List UInt8) : Option Nat := if 40 < l.length then none else match Lib.parseUintB 64 l with | .ok u => some u | _ => none
def decV (l : List UInt8) : Int := ((dec l).getD 0 : Nat)
def decB (l : List UInt8) : Bool := (dec l).isSome

theorem size_list (s : ByteArray) : s.data.toList.length = s.size := by rw [Array.length_toList]; rfl

theorem parse_no (s : ByteArray) (hlim : s.size ≤ 281474976710656) (h0 : ∀ u, Lib.parseUintB 64 s.data.toList ≠ .ok u) (h1 : Lib.parseUintB 64 s.data.toList ≠ .range) (tp : TypeId) (p : Value) (w : World) (hvar : w.var? Tryd.prog "strconv.ErrSyntax" = some #[.iface tp p]) :
    Calls Tryd.prog 58 #[.string s, .int .i64 10, .int .i64 64] w fun e w' => ∃ N, e = .returned (.tuple #[.int .u64 0, .iface 95 (.pointer (some ⟨N, 0, none⟩))]) ∧ Below w.heap.size w w' := by
  rcases h : Lib.parseUintB 64 s.data.toList with u | _ | _
  · exact absurd h (h0 u)
  · exact (Any.strconv_ParseUint_10_at64_syntax_var Tryd.laysPu14 s hlim h tp p w hvar).mono fun e w' ⟨N, he, _, _, hb⟩ => ⟨N, he, hb⟩
  · exact absurd h h1

set_option maxRecDepth 100000 in
theorem decimal_any (s : ByteArray) (hs : s.size ≤ 140737488351232) (w : World) (hL : Laid w) :
    Calls Tryd.prog 54 #[.string s] w fun e w' => e = .returned (.tuple #[.int .u64 (decV s.data.toList), .bool (decB s.data.toList)]) ∧ Below w.heap.size w w' := by
  have hl := size_list s
  by_cases h40 : 40 < s.size
  · have hi : (40 : Int) < (s.size : Int) := by omega
    have e1 : decV s.data.toList = 0 := by simp [decV, dec, hl, h40]
    have e2 : decB s.data.toList = false := by simp [decB, dec, hl, h40]
    rw [e1, e2]
    clear e1 e2 hl
    go_enter Tryd.func54, Tryd.ntmps54
    go_wp2
    go_ret2
    exact ⟨rfl, Below.refl _ _⟩
  · have hi : ¬ (40 : Int) < (s.size : Int) := by omega
    obtain ⟨tp0, p0, hv0⟩ := hL.syn
    obtain ⟨tp1, p1, hv1⟩ := hL.rng
    rcases h : Lib.parseUintB 64 s.data.toList with u | _ | _
    · have e1 : decV s.data.toList = u := by simp [decV, dec, hl, h40, h]
      have e2 : decB s.data.toList = true := by simp [decB, dec, hl, h40, h]
      rw [e1, e2]
      clear e1 e2 hl hL hv0 hv1
      go_enter Tryd.func54, Tryd.ntmps54
      go_wp2_with (go_at_call 58; refine (Tryd.strconv_ParseUint_10_at64_ok s (by omega) u h _).mono ?_; rintro e w' ⟨rfl, hw⟩)
      go_wp2
      go_ret2
      refine ⟨rfl, ?_⟩
      rcases hw with rfl | rfl
      · exact Below.refl _ _
      · exact Lib.bytesWorld_below _ _ _
    · have e1 : decV s.data.toList = 0 := by simp [decV, dec, hl, h40, h]
      have e2 : decB s.data.toList = false := by simp [decB, dec, hl, h40, h]
      rw [e1, e2]
      clear e1 e2 hl hL hv1
      go_enter Tryd.func54, Tryd.ntmps54
      go_wp2_with (go_at_call 58; refine (parse_no s (by omega) (by rw [h]; intro u hu; cases hu) (by rw [h]; intro hu; cases hu) tp0 p0 _ hv0).mono ?_; rintro e W1 ⟨N, rfl, hb⟩)
      go_wp2
      go_ret2
      exact ⟨rfl, hb⟩
    · have e1 : decV s.data.toList = 0 := by simp [decV, dec, hl, h40, h]
      have e2 : decB s.data.toList = false := by simp [decB, dec, hl, h40, h]
      rw [e1, e2]
      clear e1 e2 hl hL hv0
      go_enter Tryd.func54, Tryd.ntmps54
      go_wp2_with (go_at_call 58; refine (Tryd.strconv_ParseUint_10_at64_range_var s (by omega) h tp1 p1 _ hv1).mono ?_; rintro e W1 ⟨N, rfl, -, -, hb⟩)
      go_wp2
      go_ret2
      exact ⟨rfl, hb⟩
end Go.Proofs.YthofdmepofepgaaDoor
