/- What the listed package-level variables give to a walk: the table of powers of ten holds its numbers, and the two sentinel errors of strconv hold interface values; each goes on holding so whatever a call does at its own blocks. Conditions: the row's own list is met at the start. What Decimal and Show of package num answer, and what memory they leave: Show(u) is u's decimal numeral; Decimal(s) is the number that s spells where s has at most 40 bytes, is digits alone and lies below 2^64, else none. Conditions: the listed variables hold what the program's text lays. Plain facts of numbers: a number comes back from its digits, and from its last bytes, the highest first. Conditions: none. -/
import Derived.Test.YtkfeafmpaodagaaGreatDoorRows
import Derived.Test.YtkfeafmpaodagaaGreatDoorShelf
import Derived.WalkKit
import Derived.WalkSmall
import Derived.Stop.LaidErr
import Derived.Lib.LaidTab
import Derived.LaidMore
import Derived.MakeChecks
import Derived.Lib.Walk
import Derived.Lib.ItoaMem
import Derived.Lib.ParseUintOr
import Derived.Lib.AtoiErrMem
import Derived.BigCall
import Derived.BigGuard
namespace Go.Proofs.YtkfeafmpaodagaaGreatDoor
set_option maxHeartbeats 16000000
section
open Go.RowKit
theorem own : ownKnob Tryz.prog.godebug = none:=by kernel_rfl
theorem jTy : laidOutB Tryz.prog = true:=by kernel_rfl
theorem gTab : Tryz.prog.globalNamed "internal/strconv.uint64pow10" = some 1:=by kernel_rfl
theorem kMm : (Tryz.prog.globals[1]?).map (·.type) = some 263:=by kernel_rfl
theorem gSyn : Tryz.prog.globalNamed "strconv.ErrSyntax" = some 2:=by kernel_rfl
theorem kLc : (Tryz.prog.globals[2]?).map (·.type) = some 227:=by kernel_rfl
theorem gRng : Tryz.prog.globalNamed "strconv.ErrRange" = some 3:=by kernel_rfl
theorem kK4 : (Tryz.prog.globals[3]?).map (·.type) = some 227:=by kernel_rfl
theorem kJ8 : Tryz.prog.cellsOf 263 = 20:=by kernel_rfl
theorem kEv : Tryz.prog.cellsOf 22 = 1:=by kernel_rfl
theorem jYj : Tryz.prog.cellsOf 282 = 1:=by kernel_rfl
theorem jVi : Tryz.prog.cellsOf 9 = 1:=by kernel_rfl
theorem star : "*" ++ "errors.errorString" = "*errors.errorString":=by decide
theorem rowEs (u : TypeId) (h : Tryz.prog.typeName? 3 u = some "*errors.errorString") : u = 280 :=
 typeName_ptr_named (nm:= "errors.errorString") (by rw [star];kernel_rfl) (by kernel_rfl) (by decide) u (by rw [star];exact h)
structure jBr (w : World) : Prop where
 tab : Lib.TabIs Tryz.prog w "internal/strconv.uint64pow10" .u64 Lib.pow10Tab
 syn : ∃ tp p,w.var? Tryz.prog "strconv.ErrSyntax" = some #[.iface tp p]
 rng : ∃ tp p,w.var? Tryz.prog "strconv.ErrRange" = some #[.iface tp p]
theorem jZc {n : String} {cs : Array Value} {w w' : World} (h : w.var? Tryz.prog n = some cs) (hb : Below w.heap.size w w') : w'.var? Tryz.prog n = some cs:=by
 unfold World.var? at h ⊢
 cases hg : Tryz.prog.globalNamed n with
 | none => simp [hg] at h
 | some g =>
  simp only [hg,Option.bind_some] at h ⊢
  have hlt : g < w.heap.size:=by
   rcases Nat.lt_or_ge g w.heap.size with h' | h'
   ·exact h'
   ·rw [Array.getElem?_eq_none h'] at h;simp at h
  rw [hb.block g hlt]
  exact h
theorem jBr.on {w w' : World} (h : jBr w) (hb : Below w.heap.size w w') : jBr w' :=
 ⟨jZc h.tab hb,by obtain ⟨tp,p,hv⟩:=h.syn;exact ⟨tp,p,jZc hv hb⟩,by obtain ⟨tp,p,hv⟩:=h.rng;exact ⟨tp,p,jZc hv hb⟩⟩
def five : List (String × DataW Unit):=[("math/bits.deBruijn32tab",Rows.laid_math_bits_deBruijn32tab),("math/bits.deBruijn64tab",Rows.laid_math_bits_deBruijn64tab),("internal/strconv.uint64pow10",Rows.laid_internal_strconv_uint64pow10),("strconv.ErrRange",Rows.laid_strconv_ErrRange),("strconv.ErrSyntax",Rows.laid_strconv_ErrSyntax)]
theorem kM2 {W : World} (h : laidMetH Tryz.prog five W) : jBr W:=by
 rw [MakeChecks.laidMetH_plain _ _ _ (by kernel_rfl)] at h
 have h3 : laidMet Tryz.prog (("internal/strconv.uint64pow10",Lib.tabData .u64 Lib.pow10Tab) :: [("strconv.ErrRange",Rows.laid_strconv_ErrRange),("strconv.ErrSyntax",Rows.laid_strconv_ErrSyntax)]) W:=h.tail.tail
 have h4:=h3.tail
 have h5:=h4.tail
 obtain ⟨a1,s1,hv1,-,-,-⟩:=laid_sentinel h4 gRng kK4 Tryz.underlying227 rowEs Tryz.underlying280 Tryz.underlying282 rfl rfl Tryz.underlying9 jYj jVi
 obtain ⟨a2,s2,hv2,-,-,-⟩:=laid_sentinel h5 gSyn kLc Tryz.underlying227 rowEs Tryz.underlying280 Tryz.underlying282 rfl rfl Tryz.underlying9 jYj jVi
 exact ⟨Lib.tabIs_of_head gTab kMm Tryz.underlying263 Tryz.underlying22 kEv kJ8 h3,⟨_,_,hv2⟩,⟨_,_,hv1⟩⟩
end
section
open Go.RowKit Go.Sort
theorem jZ7 (w : World) (T : TypeId) (nd : Nat) (hs : nd ≤ 24) : Holds (fun (b : UInt8) => Value.int .u8 (b.toNat : Int)) (w.alloc (.cells Lib.zeros24 T)) w.heap.size 0 (Array.replicate nd (0 : UInt8)):=fun j hj => by
 have hj' : j < nd:=by simpa using hj
 refine ⟨?_,World.frozen?_alloc_new _ _ _ _⟩
 rw [World.cell?_alloc_new,Lib.zeros24_at _ (by omega),getElem!_pos _ j hj]
 simp
theorem jWx (w : World) (o : Obj) (dk : Array UInt8) (k : Nat) : Below w.heap.size w ((putRow (fun (b : UInt8) => Value.int .u8 (b.toNat : Int)) (w.alloc o) w.heap.size 0 dk).drewN k):=by
 rw [alloc_eq_grow]
 obtain ⟨os',_,e⟩:=putRow_grow_new (fun (b : UInt8) => Value.int .u8 (b.toNat : Int)) w #[o] w.heap.size 0 dk (Nat.le_refl _)
 rw [e]
 exact ⟨rfl,rfl,rfl,by simp [grow,World.drewN],fun j hj => heap_grow_old w os' hj⟩
set_option maxRecDepth 100000 in
theorem jV8 (u : Nat) (hu64 : u < 18446744073709551616) (w : World) (hL : jBr w) :
  Calls Tryz.prog 166 #[.int .u64 u,.int .i64 10] w fun e w' => e = .returned (.string ⟨(Lib.decDigits u).toArray⟩) ∧ Below w.heap.size w w':=by
 by_cases hs : u < 100
 ·have hi : (u : Int) < 100:=by omega
  go_enter Tryz.func166,Tryz.ntmps166
  go_wp2_with (go_at_call 197;refine (Tryz.internal_strconv_small u hs _).mono ?_;rintro e w' ⟨rfl,rfl⟩)
  go_ret
  exact ⟨rfl,Below.refl _ _⟩
 ·have hi : ¬ (u : Int) < 100:=by omega
  have hu1 : 1 ≤ u:=by omega
  have hnd20 : Lib.nDigits u ≤ 20:=by have:=Lib.numDigits_eq u hu1 hu64;split at this <;> omega
  have hal : Tryz.prog.arrayLen 246 = 24:=by kernel_rfl
  have hsl1 : ∀ W,(Instr.sliceAt 246 (.pointer (some ⟨w.heap.size,0,none⟩)) none (some (.int .i64 (Lib.nDigits u : Int))) none).run Tryz.prog W = .ok (.slice (some ⟨w.heap.size,0,none⟩) (Lib.nDigits u) 24) W:=fun W => by
   rw [run_sliceAt_array_h W 246 ⟨w.heap.size,0,none⟩ (by simp [Program.arrayLen,Program.elem,Tryz.underlying246]) .i64 (Lib.nDigits u : Int) (by omega) (by rw [hal];omega)]
   go_simp
  have hH0:=jZ7 w 246 (Lib.nDigits u) (by omega)
  have hfmt:=Tryz.internal_strconv_formatBase10 w.heap.size 0 24 u (Array.replicate (Lib.nDigits u) 0) (w.alloc (.cells Lib.zeros24 246)) hH0 (by rw [Array.size_replicate];exact Lib.lt_pow_nDigits u) hu64 (by rw [Array.size_replicate];omega)
  rw [Array.size_replicate] at hfmt
  have HH0:=Lib.hid hH0
  have htab:=hL.tab
  clear hH0 hal hL
  go_enter Tryz.func166,Tryz.ntmps166
  go_wp2_with (first
   | (go_at_call 198;refine (Tryz.internal_strconv_numDigits u hu1 hu64 _ (Lib.tabIs_alloc htab _)).mono ?_;rintro e w' ⟨rfl,rfl⟩))
  go_at_call 199
  refine hfmt.mono ?_
  rintro e w' ⟨rfl,k,v',dk,rfl,hF⟩
  have hcv : (convert 30 9 (.slice (some ⟨w.heap.size,0,none⟩) (Lib.nDigits u) 24)).run Tryz.prog ((putRow (fun (b : UInt8) => Value.int .u8 (b.toNat : Int)) (w.alloc (.cells Lib.zeros24 246)) w.heap.size 0 dk).drewN k) = .ok (.string ⟨(Lib.decDigits u).toArray⟩) ((putRow (fun (b : UInt8) => Value.int .u8 (b.toNat : Int)) (w.alloc (.cells Lib.zeros24 246)) w.heap.size 0 dk).drewN k):=by
   have h:=run_convert_bytes_back (P:=Tryz.prog) ((putRow (fun (b : UInt8) => Value.int .u8 (b.toNat : Int)) (w.alloc (.cells Lib.zeros24 246)) w.heap.size 0 dk).drewN k) 30 9 5 ⟨w.heap.size,0,none⟩ 24 (Lib.decDigits u) Tryz.underlying30 Tryz.underlying5 Tryz.underlying9 (fun j hj => by
    rw [Lib.row_is_numeral hF j hj,Lib.add_plain,World.cell?_drewN]
    exact cell?_putRow (fun (b : UInt8) => Value.int .u8 (b.toNat : Int)) _ w.heap.size 0 _ dk HH0.out (by rw [hF.size,Array.size_replicate]) j (by rw [hF.size];rw [Lib.decDigits_length] at hj;exact hj))
   rw [Lib.decDigits_length] at h
   exact h
  go_wp2
  go_ret
  exact ⟨rfl,jWx w _ dk k⟩
set_option maxRecDepth 100000 in
theorem jYn (u : Nat) (hu64 : u < 18446744073709551616) (w : World) (hL : jBr w) :
  Calls Tryz.prog 95 #[.int .u64 u] w fun e w' => e = .returned (.string ⟨(Lib.decDigits u).toArray⟩) ∧ Below w.heap.size w w':=by
 have h2 : ∀ W,jBr W → Calls Tryz.prog 136 #[.int .u64 u,.int .i64 10] W fun e w' => e = .returned (.string ⟨(Lib.decDigits u).toArray⟩) ∧ Below W.heap.size W w':=fun W hW => by
  go_enter Tryz.func136,Tryz.ntmps136
  go_wp2_with (go_at_call 166;refine (jV8 u hu64 _ hW).mono ?_;rintro e w' ⟨rfl,hb⟩)
  go_ret
  exact ⟨rfl,hb⟩
 go_enter Tryz.func95,Tryz.ntmps95
 go_wp2_with (go_at_call 136;refine (h2 _ hL).mono ?_;rintro e w' ⟨rfl,hb⟩)
 go_ret
 exact ⟨rfl,hb⟩
def dec (l : List UInt8) : Option Nat:=if 40 < l.length then none else match Lib.parseUintB 64 l with | .ok u => some u | _ => none
def jFy (l : List UInt8) : Int:=((dec l).getD 0 : Nat)
def jE4 (l : List UInt8) : Bool:=(dec l).isSome
theorem jVk (s : ByteArray) : s.data.toList.length = s.size:=by rw [Array.length_toList];rfl
theorem kI3 (s : ByteArray) (hlim : s.size ≤ 281474976710656) (h0 : ∀ u,Lib.parseUintB 64 s.data.toList ≠ .ok u) (h1 : Lib.parseUintB 64 s.data.toList ≠ .range) (tp : TypeId) (p : Value) (w : World) (hvar : w.var? Tryz.prog "strconv.ErrSyntax" = some #[.iface tp p]) :
  Calls Tryz.prog 168 #[.string s,.int .i64 10,.int .i64 64] w fun e w' => ∃ N,e = .returned (.tuple #[.int .u64 0,.iface 267 (.pointer (some ⟨N,0,none⟩))]) ∧ Below w.heap.size w w':=by
 rcases h : Lib.parseUintB 64 s.data.toList with u | _ | _
 ·exact absurd h (h0 u)
 ·exact (Any.strconv_ParseUint_10_at64_syntax_var Tryz.laysPu14 s hlim h tp p w hvar).mono fun e w' ⟨N,he,_,_,hb⟩ => ⟨N,he,hb⟩
 ·exact absurd h h1
set_option maxRecDepth 100000 in
theorem kAq (s : ByteArray) (hs : s.size ≤ 140737488351232) (w : World) (hL : jBr w) :
  Calls Tryz.prog 138 #[.string s] w fun e w' => e = .returned (.tuple #[.int .u64 (jFy s.data.toList),.bool (jE4 s.data.toList)]) ∧ Below w.heap.size w w':=by
 have hl:=jVk s
 by_cases h40 : 40 < s.size
 ·have hi : (40 : Int) < (s.size : Int):=by omega
  have e1 : jFy s.data.toList = 0:=by simp [jFy,dec,hl,h40]
  have e2 : jE4 s.data.toList = false:=by simp [jE4,dec,hl,h40]
  rw [e1,e2]
  clear e1 e2 hl
  go_enter Tryz.func138,Tryz.ntmps138
  go_wp2
  go_ret2
  exact ⟨rfl,Below.refl _ _⟩
 ·have hi : ¬ (40 : Int) < (s.size : Int):=by omega
  obtain ⟨tp0,p0,hv0⟩:=hL.syn
  obtain ⟨tp1,p1,hv1⟩:=hL.rng
  rcases h : Lib.parseUintB 64 s.data.toList with u | _ | _
  ·have e1 : jFy s.data.toList = u:=by simp [jFy,dec,hl,h40,h]
   have e2 : jE4 s.data.toList = true:=by simp [jE4,dec,hl,h40,h]
   rw [e1,e2]
   clear e1 e2 hl hL hv0 hv1
   go_enter Tryz.func138,Tryz.ntmps138
   go_wp2_with (go_at_call 168;refine (Tryz.strconv_ParseUint_10_at64_ok s (by omega) u h _).mono ?_;rintro e w' ⟨rfl,hw⟩)
   go_wp2
   go_ret2
   refine ⟨rfl,?_⟩
   rcases hw with rfl | rfl
   ·exact Below.refl _ _
   ·exact Lib.bytesWorld_below _ _ _
  ·have e1 : jFy s.data.toList = 0:=by simp [jFy,dec,hl,h40,h]
   have e2 : jE4 s.data.toList = false:=by simp [jE4,dec,hl,h40,h]
   rw [e1,e2]
   clear e1 e2 hl hL hv1
   go_enter Tryz.func138,Tryz.ntmps138
   go_wp2_with (go_at_call 168;refine (kI3 s (by omega) (by rw [h];intro u hu;cases hu) (by rw [h];intro hu;cases hu) tp0 p0 _ hv0).mono ?_;rintro e W1 ⟨N,rfl,hb⟩)
   go_wp2
   go_ret2
   exact ⟨rfl,hb⟩
  ·have e1 : jFy s.data.toList = 0:=by simp [jFy,dec,hl,h40,h]
   have e2 : jE4 s.data.toList = false:=by simp [jE4,dec,hl,h40,h]
   rw [e1,e2]
   clear e1 e2 hl hL hv0
   go_enter Tryz.func138,Tryz.ntmps138
   go_wp2_with (go_at_call 168;refine (Tryz.strconv_ParseUint_10_at64_range_var s (by omega) h tp1 p1 _ hv1).mono ?_;rintro e W1 ⟨N,rfl,-,-,hb⟩)
   go_wp2
   go_ret2
   exact ⟨rfl,hb⟩
end
section
theorem jJf (n : Nat) (hn : n < 18446744073709551616) : (Lib.decDigits n).length ≤ 20:=by
 rw [Lib.decDigits_length]
 by_cases h : n = 0
 ·subst h;rw [Lib.nDigits_small (by decide)];decide
 ·have:=Lib.numDigits_eq n (by omega) hn;split at this <;> omega
theorem kFp (n : Nat) : Lib.decDigits n ≠ []:=by
 intro h
 have:=Lib.decDigits_length n
 rw [h] at this
 have:=Lib.nDigits_pos n
 simp at *
 omega
end
end Go.Proofs.YtkfeafmpaodagaaGreatDoor
