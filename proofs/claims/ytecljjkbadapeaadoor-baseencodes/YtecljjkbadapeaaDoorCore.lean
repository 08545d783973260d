/- What the walks of this layer share: bytes that came in, rows of the call's own, strings of them. Conditions: none of the program's variables is read. -/
import Derived.Test.YtecljjkbadapeaaDoorRows
import Derived.Test.YtecljjkbadapeaaDoorShelf
import Derived.Test.YtecljjkbadapeaaDoorB64
import Derived.WalkKit
import Derived.WalkSmall
import Derived.OwnWalk
import Derived.Laws.AppendOwn
import Derived.Laws.AppendOwnNone
import Derived.Lib.AppendStr
import Derived.Maps.AppendAt
import Derived.WalkSpells
import Derived.Lib.Hide
import Derived.MakeChecks
namespace Go.Proofs.YtecljjkbadapeaaDoor
open Go.RowKit

theorem own : ownKnob Tryd.prog.godebug = none := by kernel_rfl
theorem laidOut : laidOutB Tryd.prog = true := by kernel_rfl
theorem info_u8 : (Tryd.prog.info? 5).map (fun i => (i.zero, i.size, i.bytes)) = some (some (.int .u8 0), 1, 1) := by kernel_rfl
theorem Bt {w w1 w2 : World} (h : Below w.heap.size w w1) (k : Below w1.heap.size w1 w2) : Below w.heap.size w w2 := h.trans (k.mono h.size)

/-- Bytes, given as numbers, as a string. -/
def strOf (zs : List Int) : ByteArray := ⟨(zs.map fun z => UInt8.ofNat z.toNat).toArray⟩
/-- Bytes as numbers. -/
def ints (l : List UInt8) : List Int := l.map fun c => (c.toNat : Int)
/-- The cells of bytes. -/
def cs (zs : List Int) : List Value := zs.map (Value.int .u8)
theorem cs_app (a b : List Int) : cs (a ++ b) = cs a ++ cs b := by unfold cs; rw [List.map_append]
theorem cs_len (a : List Int) : (cs a).length = a.length := by unfold cs; rw [List.length_map]
theorem ints_app (a b : List UInt8) : ints (a ++ b) = ints a ++ ints b := by unfold ints; rw [List.map_append]
theorem ints_len (a : List UInt8) : (ints a).length = a.length := by unfold ints; rw [List.length_map]
theorem ints_byt (l : List UInt8) : Byt (ints l) := by
  intro z hz
  unfold ints at hz
  obtain ⟨c, _, rfl⟩ := List.mem_map.1 hz
  have := c.toNat_lt
  omega
theorem strOf_ints (l : List UInt8) : strOf (ints l) = ⟨l.toArray⟩ := by
  unfold strOf ints
  rw [List.map_map]
  congr 2
  conv => rhs; rw [← List.map_id l]
  apply List.map_congr_left
  intro c _
  simp
theorem byt_app {a b : List Int} (ha : Byt a) (hb : Byt b) : Byt (a ++ b) := fun z hz => (List.mem_append.1 hz).elim (ha z) (hb z)
theorem strOf_inj {a b : List Int} (ha : Byt a) (hb : Byt b) (h : strOf a = strOf b) : a = b := by
  have h1 : (a.map fun z => UInt8.ofNat z.toNat) = b.map fun z => UInt8.ofNat z.toNat := by
    have := congrArg (fun x : ByteArray => x.data.toList) h
    simpa [strOf] using this
  have key : ∀ l : List Int, Byt l → ints (l.map fun z => UInt8.ofNat z.toNat) = l := by
    intro l hl
    unfold ints
    rw [List.map_map]
    conv => rhs; rw [← List.map_id l]
    apply List.map_congr_left
    intro z hz
    have := hl z hz
    simp only [Function.comp, UInt8.toNat_ofNat', id]
    omega
  rw [← key a ha, ← key b hb, h1]

/-- Bytes that lie in memory: a slice of them; none of them, or at least one. -/
structure Row1 (w : World) (a : Option Addr) (len cap : Nat) (es : List Int) (b off : Nat) : Prop where
  at_ : a = some ⟨b, off, none⟩
  one : 1 ≤ len
  cap_ : len ≤ cap
  len_ : es.length = len
  bd : Byt es
  cell : ∀ i, i < len → w.cell? ⟨b, off + i, none⟩ = some (.int .u8 (es.getD i 0))
  old : b < w.heap.size
def Bs (w : World) (a : Option Addr) (len cap : Nat) (es : List Int) : Prop :=
  (len = 0 ∧ es = [] ∧ (a = none → cap = 0)) ∨ ∃ b off, Row1 w a len cap es b off
theorem Row1.on {w w' : World} {a : Option Addr} {len cap : Nat} {es : List Int} {b off : Nat} (h : Row1 w a len cap es b off) (hb : Below w.heap.size w w') : Row1 w' a len cap es b off :=
  ⟨h.at_, h.one, h.cap_, h.len_, h.bd, fun i hi => (hb.cell (p := ⟨b, off + i, none⟩) h.old).trans (h.cell i hi), Nat.lt_of_lt_of_le h.old hb.size⟩
theorem Bs.on {w w' : World} {a : Option Addr} {len cap : Nat} {es : List Int} (h : Bs w a len cap es) (hb : Below w.heap.size w w') : Bs w' a len cap es := by
  rcases h with h | ⟨b, off, r⟩
  · exact .inl h
  · exact .inr ⟨b, off, r.on hb⟩
theorem Bs.len_ {w : World} {a : Option Addr} {len cap : Nat} {es : List Int} (h : Bs w a len cap es) : es.length = len := by
  rcases h with ⟨h1, h2, _⟩ | ⟨b, off, r⟩
  · rw [h1, h2]; rfl
  · exact r.len_
theorem Bs.bd {w : World} {a : Option Addr} {len cap : Nat} {es : List Int} (h : Bs w a len cap es) : Byt es := by
  rcases h with ⟨h1, h2, _⟩ | ⟨b, off, r⟩
  · rw [h2]; intro z hz; cases hz
  · exact r.bd
/-- The slice is nil; or it leads to a row of 'cap' cells, the numbers 'zs' (the first 'len' are its elements), each fitting its kind. -/
def IsRow (k : IntKind) (w : World) (a : Option Addr) (len cap : Nat) (zs : List Int) : Prop :=
  (a = none ∧ len = 0 ∧ cap = 0 ∧ zs = []) ∨
  ∃ x, a = some x ∧ len ≤ cap ∧ cap ≤ maxLen ∧ zs.length = cap ∧ (∀ i, i < zs.length → w.cell? (x.add i) = some (.int k (zs.getD i 0))) ∧ ∀ n ∈ zs, (Lit.int k n).wf = true
theorem add_at (b off i : Nat) : (⟨b, off, none⟩ : Addr).add i = ⟨b, off + i, none⟩ := by unfold Addr.add; split <;> simp_all
theorem IsRow.bs {w : World} {a : Option Addr} {len cap : Nat} {zs : List Int} (h : IsRow .u8 w a len cap zs) : Bs w a len cap (zs.take len) := by
  rcases h with ⟨rfl, rfl, rfl, rfl⟩ | ⟨x, rfl, hl, hm, hz, hcell, hwz⟩
  · exact .inl ⟨rfl, rfl, fun _ => rfl⟩
  · by_cases h0 : len = 0
    · subst h0; exact .inl ⟨rfl, rfl, fun e => by cases e⟩
    · obtain ⟨b, off, spot⟩ := x
      have hc := hcell 0 (by omega)
      have hspot : spot = none := by simpa [Addr.add] using World.cell?_spot hc
      subst hspot
      refine .inr ⟨b, off, rfl, by omega, hl, by simp; omega, ?_, ?_, ?_⟩
      · intro z hzm
        have := hwz z (List.mem_of_mem_take hzm)
        have e1 : IntKind.u8.min = 0 := rfl
        have e2 : IntKind.u8.max = 255 := rfl
        simp [Lit.wf, e1, e2] at this
        exact this
      · intro i hi
        have := hcell i (by omega)
        rw [add_at] at this
        rw [this]
        simp [List.getD, hi]
      · rw [add_at] at hc
        exact block_lt_of_cell hc
/-- A row of the call's own, as bytes that lie in memory. -/
theorem own_bs {w : World} {base n : Nat} {v : Value} {zs : List Int} (ho : w.ownsRow base 5 1 v n (cs zs)) (hz : Byt zs) : ∃ a cap, v = .slice a n cap ∧ Bs w a n cap zs := by
  have hn : zs.length = n := by have := ho.1; rw [cs_len] at this; omega
  rcases ho.2 with ⟨rfl, rfl⟩ | ⟨g, cap, cur, rfl, hg, hh, hc, hr⟩
  · exact ⟨none, 0, rfl, .inl ⟨rfl, List.eq_nil_of_length_eq_zero hn, fun _ => rfl⟩⟩
  · refine ⟨some ⟨g, 0, none⟩, cap, rfl, ?_⟩
    by_cases h0 : n = 0
    · subst h0; exact .inl ⟨rfl, List.eq_nil_of_length_eq_zero hn, fun e => by cases e⟩
    · refine .inr ⟨g, 0, rfl, by omega, hc, hn, hz, fun i hi => ?_, lt_of_block hh⟩
      rw [Nat.zero_add, ho.cellAt i (by omega), cs, List.getElem?_map, List.getElem?_eq_getElem (by omega)]
      simp [List.getD, List.getElem?_eq_getElem (show i < zs.length by omega)]
/-- 'string(x)' of bytes that lie in memory. -/
theorem conv_bs {w : World} {a : Option Addr} {len cap : Nat} {es : List Int} (h : Bs w a len cap es) :
    (convert 22 9 (.slice a len cap)).run Tryd.prog w = .ok (.string (strOf es)) w := by
  rcases h with ⟨rfl, rfl, _⟩ | ⟨b, off, r⟩
  · rw [run_convert_bytes_string w 22 9 5 _ 0 cap Tryd.underlying22 Tryd.underlying5 Tryd.underlying9]
    cases a <;> simp [Conv.bytesToString, loadCells] <;> rfl
  · rw [r.at_]
    have hn := r.len_
    have h := run_convert_bytes_back (P := Tryd.prog) w 22 9 5 ⟨b, off, none⟩ cap (es.map fun z => UInt8.ofNat z.toNat) Tryd.underlying22 Tryd.underlying5 Tryd.underlying9 (fun j hj => by
      have hj' : j < es.length := by simpa using hj
      rw [add_at, r.cell j (by omega)]
      have := r.bd _ (List.getElem_mem hj')
      simp only [List.getElem_map, UInt8.toNat_ofNat', List.getD, List.getElem?_eq_getElem hj', Option.getD_some]
      congr 2
      omega)
    rw [List.length_map, hn] at h
    exact h
theorem conv_own {w : World} {base n : Nat} {v : Value} {zs : List Int} (ho : w.ownsRow base 5 1 v n (cs zs)) (hz : Byt zs) :
    (convert 22 9 v).run Tryd.prog w = .ok (.string (strOf zs)) w := by
  obtain ⟨a, cap, rfl, h⟩ := own_bs ho hz
  exact conv_bs h
theorem grown_below {w w' : World} {base : Nat} {e size n : Nat} {v : Value} {xs : List Value} (ho : w.ownsRow base e size v n xs) (hg : w.grownBy w' v.ownBlock) (hb : base ≤ w.heap.size) : Below base w w' :=
  (Below.refl _ _).grown hg hb fun k hk => by
    rcases ho.2 with ⟨rfl, _⟩ | ⟨g, cap, cur, rfl, hg', _⟩
    · cases hk
    · cases hk; exact hg'
theorem hide {p : Prop} (h : p) : Hid p := h
theorem ret_bool {b : Bool} (h : b = true) : Ending.returned (.bool b) = .returned (.bool true) := by rw [h]
end Go.Proofs.YtecljjkbadapeaaDoor
