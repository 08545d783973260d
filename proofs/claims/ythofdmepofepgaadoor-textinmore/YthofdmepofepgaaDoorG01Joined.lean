/- What the listed package-level variables give to a walk: the table of powers of ten holds its numbers, and the two sentinel errors of strconv hold interface values; each goes on holding so whatever a call does at its own blocks. Conditions: the row's own list is met at the start. What Decimal and Show of package num answer, and what memory they leave: Show(u) is u's decimal numeral; Decimal(s) is the number that s spells where s has at most 40 bytes, is digits alone and lies below 2^64, else none. Conditions: the listed variables hold what the program's text lays. -/
import Derived.Test.YthofdmepofepgaaDoorRows
import Derived.Test.YthofdmepofepgaaDoorShelf
import Derived.WalkKit
import Derived.WalkSmall
import Derived.Stop.LaidErr
import Derived.Lib.LaidTab
import Derived.Lib.ItoaNum
import Derived.LaidMore
import Derived.MakeChecks
import Derived.Lib.Walk
import Derived.Lib.ItoaMem
import Derived.Lib.ParseUintOr
import Derived.Lib.AtoiErrMem
import Derived.BigCall
import Derived.BigGuard
namespace Go.Proofs.YthofdmepofepgaaDoor
open Go.RowKit

theorem own : ownKnob Tryd.prog.godebug = none := by kernel_rfl
theorem laidOut : laidOutB Tryd.prog = true := by kernel_rfl
theorem gTab : Tryd.prog.globalNamed "internal/strconv.uint64pow10" = some 3 := by kernel_rfl
theorem gTabType : (Tryd.prog.globals[3]?).map (·.type) = some 114 := by kernel_rfl
theorem gSyn : Tryd.prog.globalNamed "strconv.ErrSyntax" = some 1 := by kernel_rfl
theorem gSynType : (Tryd.prog.globals[1]?).map (·.type) = some 88 := by kernel_rfl
theorem gRng : Tryd.prog.globalNamed "strconv.ErrRange" = some 2 := by kernel_rfl
theorem gRngType : (Tryd.prog.globals[2]?).map (·.type) = some 88 := by kernel_rfl
theorem cellsTab : Tryd.prog.cellsOf 114 = 20 := by kernel_rfl
theorem cells_u64 : Tryd.prog.cellsOf 36 = 1 := by kernel_rfl
theorem cells_es : Tryd.prog.cellsOf 105 = 1 := by kernel_rfl
theorem cells_str : Tryd.prog.cellsOf 9 = 1 := by kernel_rfl
theorem star : "*" ++ "errors.errorString" = "*errors.errorString" := by decide
theorem rowEs (u : TypeId) (h : Tryd.prog.typeName? 3 u = some "*errors.errorString") : u = 103 :=
  typeName_ptr_named (nm := "errors.errorString") (by rw [star]; kernel_rfl) (by kernel_rfl) (by decide) u (by rw [star]; exact h)

/-- What every call below needs of the start's memory. -/
structure Laid (w : World) : Prop where
  tab : Lib.TabIs Tryd.prog w "internal/strconv.uint64pow10" .u64 Lib.pow10Tab
  syn : ∃ tp p, w.var? Tryd.prog "strconv.ErrSyntax" = some #[.iface tp p]
  rng : ∃ tp p, w.var? Tryd.prog "strconv.ErrRange" = some #[.iface tp p]

theorem var_on {n : String} {cs : Array Value} {w w' : World} (h : w.var? Tryd.prog n = some cs) (hb : Below w.heap.size w w') : w'.var? Tryd.prog n = some cs := by
  unfold World.var? at h ⊢
  cases hg : Tryd.prog.globalNamed n with
  | none => simp [hg] at h
  | some g =>
    simp only [hg, Option.bind_some] at h ⊢
    have hlt : g < w.heap.size := by
      rcases Nat.lt_or_ge g w.heap.size with h' | h'
      · exact h'
      · rw [Array.getElem?_eq_none h'] at h; simp at h
    rw [hb.block g hlt]
    exact h

theorem Laid.on {w w' : World} (h : Laid w) (hb : Below w.heap.size w w') : Laid w' :=
  ⟨var_on h.tab hb, by obtain ⟨tp, p, hv⟩ := h.syn; exact ⟨tp, p, var_on hv hb⟩, by obtain ⟨tp, p, hv⟩ := h.rng; exact ⟨tp, p, var_on hv hb⟩⟩

/-- The five variables as the rows list them. -/
def five : List (String × DataW Unit) := [("math/bits.deBruijn32tab", Rows.laid_math_bits_deBruijn32tab), ("math/bits.deBruijn64tab", Rows.laid_math_bits_deBruijn64tab), ("internal/strconv.uint64pow10", Rows.laid_internal_strconv_uint64pow10), ("strconv.ErrRange", Rows.laid_strconv_ErrRange), ("strconv.ErrSyntax", Rows.laid_strconv_ErrSyntax)]

theorem laid_of {W : World} (h : laidMetH Tryd.prog five W) : Laid W := by
  rw [MakeChecks.laidMetH_plain _ _ _ (by kernel_rfl)] at h
  have h3 : laidMet Tryd.prog (("internal/strconv.uint64pow10", Lib.tabData .u64 Lib.pow10Tab) :: [("strconv.ErrRange", Rows.laid_strconv_ErrRange), ("strconv.ErrSyntax", Rows.laid_strconv_ErrSyntax)]) W := h.tail.tail
  have h4 := h3.tail
  have h5 := h4.tail
  obtain ⟨a1, s1, hv1, -, -, -⟩ := laid_sentinel h4 gRng gRngType Tryd.underlying88 rowEs Tryd.underlying103 Tryd.underlying105 rfl rfl Tryd.underlying9 cells_es cells_str
  obtain ⟨a2, s2, hv2, -, -, -⟩ := laid_sentinel h5 gSyn gSynType Tryd.underlying88 rowEs Tryd.underlying103 Tryd.underlying105 rfl rfl Tryd.underlying9 cells_es cells_str
  exact ⟨Lib.tabIs_of_head gTab gTabType Tryd.underlying114 Tryd.underlying36 cells_u64 cellsTab h3, ⟨_, _, hv2⟩, ⟨_, _, hv1⟩⟩

/-- The heap that the initialisers' own run leaves meets the list. -/
theorem door_met (os : Os) (args : Array Value) : laidMetH Tryd.prog five ((World.doorLaid Tryd.prog 62 os).forCall (fun _ _ => 0) ⟨#[], args, []⟩).memory :=
  laidMetH_of_parts3 (fuel := 8) (laidMet_of_run' 8 (by kernel_rfl) (by kernel_rfl)) (by kernel_rfl) (by kernel_rfl)
end Go.Proofs.YthofdmepofepgaaDoor

namespace Go.Proofs.YthofdmepofepgaaDoor
open Go.RowKit Go.Sort

/-- The number that Decimal answers, or none. -/
def dec (l : List UInt8) : Option Nat := if 40 < l.length then none else match Lib.parseUintB 64 l with | .ok u => some u | _ => none
def decV (l : List UInt8) : Int := ((dec l).getD 0 : Nat)
def decB (l : List UInt8) : Bool := (dec l).isSome

theorem size_list (s : ByteArray) : s.data.toList.length = s.size := by rw [Array.length_toList]; rfl

theorem parse_no (s : ByteArray) (hlim : s.size ≤ 281474976710656) (h0 : ∀ u, Lib.parseUintB 64 s.data.toList ≠ .ok u) (h1 : Lib.parseUintB 64 s.data.toList ≠ .range) (tp : TypeId) (p : Value) (w : World) (hvar : w.var? Tryd.prog "strconv.ErrSyntax" = some #[.iface tp p]) :
    Calls Tryd.prog 58 #[.string s, .int .i64 10, .int .i64 64] w fun e w' => ∃ N, e = .returned (.tuple #[.int .u64 0, .iface 95 (.pointer (some ⟨N, 0, none⟩))]) ∧ Below w.heap.size w w' := by
  rcases h : Lib.parseUintB 64 s.data.toList with u | _ | _
  · exact absurd h (h0 u)
  · exact (Any.strconv_ParseUint_10_at64_syntax_var Tryd.laysPu14 s hlim h tp p w hvar).mono fun e w' ⟨N, he, _, _, hb⟩ => ⟨N, he, hb⟩
  · exact absurd h h1

set_option maxRecDepth 100000 in
theorem decimal_any (s : ByteArray) (hs : s.size ≤ 140737488351232) (w : World) (hL : Laid w) :
    Calls Tryd.prog 54 #[.string s] w fun e w' => e = .returned (.tuple #[.int .u64 (decV s.data.toList), .bool (decB s.data.toList)]) ∧ Below w.heap.size w w' := by
  have hl := size_list s
  by_cases h40 : 40 < s.size
  · have hi : (40 : Int) < (s.size : Int) := by omega
    have e1 : decV s.data.toList = 0 := by simp [decV, dec, hl, h40]
    have e2 : decB s.data.toList = false := by simp [decB, dec, hl, h40]
    rw [e1, e2]
    clear e1 e2 hl
    go_enter Tryd.func54, Tryd.ntmps54
    go_wp2
    go_ret2
    exact ⟨rfl, Below.refl _ _⟩
  · have hi : ¬ (40 : Int) < (s.size : Int) := by omega
    obtain ⟨tp0, p0, hv0⟩ := hL.syn
    obtain ⟨tp1, p1, hv1⟩ := hL.rng
    rcases h : Lib.parseUintB 64 s.data.toList with u | _ | _
    · have e1 : decV s.data.toList = u := by simp [decV, dec, hl, h40, h]
      have e2 : decB s.data.toList = true := by simp [decB, dec, hl, h40, h]
      rw [e1, e2]
      clear e1 e2 hl hL hv0 hv1
      go_enter Tryd.func54, Tryd.ntmps54
      go_wp2_with (go_at_call 58; refine (Tryd.strconv_ParseUint_10_at64_ok s (by omega) u h _).mono ?_; rintro e w' ⟨rfl, hw⟩)
      go_wp2
      go_ret2
      refine ⟨rfl, ?_⟩
      rcases hw with rfl | rfl
      · exact Below.refl _ _
      · exact Lib.bytesWorld_below _ _ _
    · have e1 : decV s.data.toList = 0 := by simp [decV, dec, hl, h40, h]
      have e2 : decB s.data.toList = false := by simp [decB, dec, hl, h40, h]
      rw [e1, e2]
      clear e1 e2 hl hL hv1
      go_enter Tryd.func54, Tryd.ntmps54
      go_wp2_with (go_at_call 58; refine (parse_no s (by omega) (by rw [h]; intro u hu; cases hu) (by rw [h]; intro hu; cases hu) tp0 p0 _ hv0).mono ?_; rintro e W1 ⟨N, rfl, hb⟩)
      go_wp2
      go_ret2
      exact ⟨rfl, hb⟩
    · have e1 : decV s.data.toList = 0 := by simp [decV, dec, hl, h40, h]
      have e2 : decB s.data.toList = false := by simp [decB, dec, hl, h40, h]
      rw [e1, e2]
      clear e1 e2 hl hL hv0
      go_enter Tryd.func54, Tryd.ntmps54
      go_wp2_with (go_at_call 58; refine (Tryd.strconv_ParseUint_10_at64_range_var s (by omega) h tp1 p1 _ hv1).mono ?_; rintro e W1 ⟨N, rfl, -, -, hb⟩)
      go_wp2
      go_ret2
      exact ⟨rfl, hb⟩
end Go.Proofs.YthofdmepofepgaaDoor
