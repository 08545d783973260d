/- Slices of structs of any size that came in, opened: each element's cells, in memory. Conditions: the element's type takes at least one cell. Slices of bytes that came in, and their being appended to a row of one's own. Conditions: none. Bytes that lie in memory, and texts made of them. Conditions: none of the program's variables is read. Rows of texts. Conditions: none. -/
import Derived.Test.YtkfeafmpaodagaaGreatDoorG00Joined
import Derived.ProofKit
import Derived.OpenShut
import Derived.Deep.SlicePairs
import Derived.Deep.Strs
import Derived.Maps.AppendAt
import Derived.Laws.OwnMore
import Derived.Laws.IdiomStrings
import Derived.Test.YtkfeafmpaodagaaGreatDoorG01Joined
namespace Go.Proofs.YtkfeafmpaodagaaGreatDoor
set_option maxHeartbeats 16000000
section
open Go.RowKit Go.ChangeShapes Go.WideShapes Go.Deep
def I64 (a : Int) : Prop:=-9223372036854775808 ≤ a ∧ a < 9223372036854775808
def jK2 (w : World) (a : Option Addr) (len cap size : Nat) (xs : List (List Value)) : Prop :=
 (len = 0 ∧ xs = []) ∨ ∃ b off,a = some ⟨b,off,none⟩ ∧ len ≤ cap ∧ xs.length = len ∧ b < w.heap.size ∧
  ∀ (i j : Nat) (x : List Value) (v : Value),xs[i]? = some x → x[j]? = some v → w.cell? ⟨b,off + i * size + j,none⟩ = some v
theorem jK2.on {w w' : World} {a : Option Addr} {len cap size : Nat} {xs : List (List Value)} (h : jK2 w a len cap size xs) (hb : Below w.heap.size w w') : jK2 w' a len cap size xs:=by
 rcases h with h | ⟨b,off,h1,h2,h3,h4,h5⟩
 ·exact .inl h
 ·exact .inr ⟨b,off,h1,h2,h3,Nat.lt_of_lt_of_le h4 hb.size,fun i j x v hx hv => (hb.cell (p:=⟨b,off + i * size + j,none⟩) h4).trans (h5 i j x v hx hv)⟩
theorem jK2.len_ {w : World} {a : Option Addr} {len cap size : Nat} {xs : List (List Value)} (h : jK2 w a len cap size xs) : xs.length = len:=by
 rcases h with ⟨h1,h2⟩ | ⟨b,off,h1,h2,h3,h4,h5⟩
 ·rw [h1,h2];rfl
 ·exact h3
theorem jK2.at {w : World} {a : Option Addr} {len cap size : Nat} {xs : List (List Value)} (h : jK2 w a len cap size xs) (i : Nat) (x : List Value) (hi : xs[i]? = some x) :
  ∃ b off,a = some ⟨b,off,none⟩ ∧ b < w.heap.size ∧ len ≤ cap ∧ ∀ (j : Nat) (v : Value),x[j]? = some v → w.cell? ⟨b,off + i * size + j,none⟩ = some v:=by
 rcases h with ⟨h1,h2⟩ | ⟨b,off,h1,h2,h3,h4,h5⟩
 ·rw [h2] at hi;cases hi
 ·exact ⟨b,off,h1,h4,h2,fun j v hv => h5 i j x v hi hv⟩
end
section
open Go.RowKit
def byV (l : List Int) : List Value:=l.map (Value.int .u8)
theorem jVr : (Tryz.prog.info? 5).map (fun i => (i.zero,i.size,i.bytes)) = some (some (.int .u8 0),1,1):=by kernel_rfl
end
section
open Go.RowKit
def Byt (zs : List Int) : Prop:=∀ z ∈ zs,0 ≤ z ∧ z ≤ 255
def jP0 (zs : List Int) : ByteArray:=⟨(zs.map fun z => UInt8.ofNat z.toNat).toArray⟩
def jA6 (l : List UInt8) : List Int:=l.map fun c => (c.toNat : Int)
theorem jMf (a : List UInt8) : (jA6 a).length = a.length:=by unfold jA6;rw [List.length_map]
theorem jQ8 (l : List UInt8) : Byt (jA6 l):=by
 intro z hz
 unfold jA6 at hz
 obtain ⟨c,_,rfl⟩:=List.mem_map.1 hz
 have:=c.toNat_lt
 omega
theorem jN6 (l : List UInt8) : jP0 (jA6 l) = ⟨l.toArray⟩:=by
 unfold jP0 jA6
 rw [List.map_map]
 congr 2
 conv => rhs;rw [← List.map_id l]
 apply List.map_congr_left
 intro c _
 simp
structure Row1 (w : World) (a : Option Addr) (len cap : Nat) (es : List Int) (b off : Nat) : Prop where
 at_ : a = some ⟨b,off,none⟩
 one : 1 ≤ len
 cap_ : len ≤ cap
 len_ : es.length = len
 bd : Byt es
 cell : ∀ i,i < len → w.cell? ⟨b,off + i,none⟩ = some (.int .u8 (es.getD i 0))
 old : b < w.heap.size
def Bs (w : World) (a : Option Addr) (len cap : Nat) (es : List Int) : Prop :=
 (len = 0 ∧ es = [] ∧ (a = none → cap = 0)) ∨ ∃ b off,Row1 w a len cap es b off
theorem Row1.on {w w' : World} {a : Option Addr} {len cap : Nat} {es : List Int} {b off : Nat} (h : Row1 w a len cap es b off) (hb : Below w.heap.size w w') : Row1 w' a len cap es b off :=
 ⟨h.at_,h.one,h.cap_,h.len_,h.bd,fun i hi => (hb.cell (p:=⟨b,off + i,none⟩) h.old).trans (h.cell i hi),Nat.lt_of_lt_of_le h.old hb.size⟩
theorem Bs.on {w w' : World} {a : Option Addr} {len cap : Nat} {es : List Int} (h : Bs w a len cap es) (hb : Below w.heap.size w w') : Bs w' a len cap es:=by
 rcases h with h | ⟨b,off,r⟩
 ·exact .inl h
 ·exact .inr ⟨b,off,r.on hb⟩
theorem jPk (b off i : Nat) : (⟨b,off,none⟩ : Addr).add i = ⟨b,off + i,none⟩:=by unfold Addr.add;split <;> simp_all
theorem jLx {w : World} {a : Option Addr} {len cap : Nat} {es : List Int} (h : Bs w a len cap es) :
  (convert 30 9 (.slice a len cap)).run Tryz.prog w = .ok (.string (jP0 es)) w:=by
 rcases h with ⟨rfl,rfl,_⟩ | ⟨b,off,r⟩
 ·rw [run_convert_bytes_string w 30 9 5 _ 0 cap Tryz.underlying30 Tryz.underlying5 Tryz.underlying9]
  cases a <;> simp [Conv.bytesToString,loadCells] <;> rfl
 ·rw [r.at_]
  have hn:=r.len_
  have h:=run_convert_bytes_back (P:=Tryz.prog) w 30 9 5 ⟨b,off,none⟩ cap (es.map fun z => UInt8.ofNat z.toNat) Tryz.underlying30 Tryz.underlying5 Tryz.underlying9 (fun j hj => by
   have hj' : j < es.length:=by simpa using hj
   rw [jPk,r.cell j (by omega)]
   have:=r.bd _ (List.getElem_mem hj')
   simp only [List.getElem_map,UInt8.toNat_ofNat',List.getD,List.getElem?_eq_getElem hj',Option.getD_some]
   congr 2
   omega)
  rw [List.length_map,hn] at h
  exact h
theorem kIj (l : List UInt8) (i : Nat) (h : i < l.length) : (jA6 l).getD i 0 = (l[i].toNat : Int):=by
 unfold jA6
 simp [List.getD,List.getElem?_eq_getElem h]
end
section
open Go.RowKit Go.Shelf
theorem jJ4 : (Tryz.prog.info? 9).map (fun i => (i.zero,i.size,i.bytes)) = some (some (.string ⟨#[]⟩),1,16):=by kernel_rfl
def jB6 (xs : List ByteArray) : List Value:=xs.map Value.string
theorem jXd (xs : List ByteArray) : (jB6 xs).length = xs.length:=List.length_map _
theorem jL2 (xs : List ByteArray) (x : ByteArray) : jB6 (xs ++ [x]) = jB6 xs ++ [.string x]:=by simp [jB6]
end
end Go.Proofs.YtkfeafmpaodagaaGreatDoor
