/- Slices of bytes that came in, and their being appended to a row of one's own. Conditions: none. Bytes that lie in memory, and texts made of them. Conditions: none of the program's variables is read. Bytes that lie in memory: cut, copied, appended. Conditions: none of the program's variables is read; appends of at most 100000000 bytes. -/
import Derived.Test.YtfcmnkhfmofioaaDoorG01Joined
import Derived.Maps.AppendAt
import Derived.Laws.OwnMore
import Derived.Test.YtfcmnkhfmofioaaDoorG00Joined
import Derived.Laws.IdiomStrings
import Derived.Laws.AppendOwnNone
import Derived.Laws.Cover3
namespace Go.Proofs.YtfcmnkhfmofioaaDoor
open Go.RowKit

def IsRow (k : IntKind) (w : World) (a : Option Addr) (len cap : Nat) (zs : List Int) : Prop :=
  (a = none ∧ len = 0 ∧ cap = 0 ∧ zs = []) ∨
  ∃ x, a = some x ∧ len ≤ cap ∧ cap ≤ maxLen ∧ zs.length = cap ∧ (∀ i, i < zs.length → w.cell? (x.add i) = some (.int k (zs.getD i 0))) ∧ ∀ n ∈ zs, (Lit.int k n).wf = true
theorem IsRow.below {k : IntKind} {w w' : World} {a : Option Addr} {len cap : Nat} {zs : List Int} (h : IsRow k w a len cap zs) (hb : Below w.heap.size w w') : IsRow k w' a len cap zs := by
  rcases h with h | ⟨x, h1, h2, h3, h4, h5, h6⟩
  · exact .inl h
  · exact .inr ⟨x, h1, h2, h3, h4, fun i hi => (hb.cell (p := x.add i) (World.block_lt_of_cell? w _ (h5 i hi))).trans (h5 i hi), h6⟩
theorem IsRow.len_ {k : IntKind} {w : World} {a : Option Addr} {len cap : Nat} {zs : List Int} (h : IsRow k w a len cap zs) : (zs.take len).length = len ∧ len ≤ maxLen := by
  rcases h with ⟨_, rfl, _, rfl⟩ | ⟨x, h1, h2, h3, h4, h5, h6⟩
  · exact ⟨rfl, Nat.zero_le _⟩
  · exact ⟨by rw [List.length_take, h4]; omega, by omega⟩
def byV (l : List Int) : List Value := l.map (Value.int .u8)
theorem info_byte : (Tryd.prog.info? 5).map (fun i => (i.zero, i.size, i.bytes)) = some (some (.int .u8 0), 1, 1) := by kernel_rfl
/-- All of them are appended. -/
theorem run_append_bytes (w : World) (base : Nat) (ty : TypeId) {v : Value} {n : Nat} {xs : List Value} {a : Option Addr} {len cap : Nat} {zs : List Int} (hown : w.ownsRow base 5 1 v n xs) (hr : IsRow .u8 w a len cap zs) (hn : n + len ≤ 100000000) (hb : base ≤ w.heap.size) :
    ∃ v' w', (Builtin.append_ #[22, 22] ty #[v, .slice a len cap]).run Tryd.prog w = .ok v' w' ∧ w'.ownsRow base 5 1 v' (n + len) (xs ++ byV (zs.take len)) ∧ w.grownBy w' v.ownBlock ∧ (v'.ownBlock = v.ownBlock ∨ v'.ownBlock = some w.heap.size) := by
  obtain ⟨i0, hi, hz0, hz1, hz2⟩ := info_parts info_byte
  rcases hr with ⟨rfl, rfl, rfl, rfl⟩ | ⟨x, rfl, h2, h3, h4, h5, h6⟩
  · refine ⟨v, w, run_append_owned_none w base 22 ty 5 i0 1 Tryd.underlying22 hi v n xs hown, ?_, gr_refl _ _, .inl rfl⟩
    simpa [byV] using hown
  · have hl : (byV (zs.take len)).length = len * 1 := by unfold byV; rw [List.length_map, List.length_take, h4]; omega
    have hnews : ∀ (j : Nat) (u : Value), (byV (zs.take len))[j]? = some u → w.cell? (x.add j) = some u := by
      intro j u hu
      unfold byV at hu
      have hj : j < len := by
        have := (List.getElem?_eq_some_iff.1 hu).1
        rw [List.length_map, List.length_take] at this
        omega
      have hjz : j < zs.length := by omega
      rw [List.getElem?_map, List.getElem?_take, if_pos hj, List.getElem?_eq_getElem hjz] at hu
      rw [h5 j hjz, List.getD, List.getElem?_eq_getElem hjz]
      exact hu
    obtain ⟨v', w', q1, q2, q3, _, q5⟩ := run_append_own_at (P := Tryd.prog) w base 22 ty 5 i0 (.int .u8 0) 1 1 Tryd.underlying22 hi hz0 hz1 hz2 rfl (by decide) v n xs hown x len cap (byV (zs.take len)) hl hnews (fun u hu => by
      unfold byV at hu
      obtain ⟨z, _, rfl⟩ := List.mem_map.1 hu
      rfl) (by unfold maxLen; omega) (by omega) hb
    exact ⟨v', w', q1, q2, q3, q5⟩
theorem wpList_append_bytes {w : World} {ops : Array Oper} {rest : List Oper} {o : Oper} {a : Act} {Q : Exit → Act → World → Prop} (hgd : o.guard = none) (s x : Operand) (ho : o.op = .call { callee := .builtin .append, args := #[s, x], argTypes := #[22, 22] })
    (base : Nat) (v : Value) (n : Nat) (xs : List Value) (hs : a.eval s = v) (hown : w.ownsRow base 5 1 v n xs) (b : Option Addr) (len cap : Nat) (zs : List Int) (hx : a.eval x = .slice b len cap) (hr : IsRow .u8 w b len cap zs) (hn : n + len ≤ 100000000) (hb : base ≤ w.heap.size)
    (h : ∀ v' w', w'.ownsRow base 5 1 v' (n + len) (xs ++ byV (zs.take len)) → w.grownBy w' v.ownBlock → (v'.ownBlock = v.ownBlock ∨ v'.ownBlock = some w.heap.size) → wpList Tryd.prog ops Q rest (a.put o.dst v') w') :
    wpList Tryd.prog ops Q (o :: rest) a w := by
  refine wpList_plain hgd fun K hK => ?_
  obtain ⟨v', w', hr, h2, h3, h5⟩ := run_append_bytes w base o.type hown hr hn hb
  unfold Oper.wp execOp
  simp only [ho, resolve, invoke, builtin, Sem.run_bind, Sem.run_pure, Result.andThen_ok, List.map_toArray, List.map_cons, List.map_nil, hs, hx, hr]
  exact hK _ _ (h v' w' h2 h3 h5)
end Go.Proofs.YtfcmnkhfmofioaaDoor

namespace Go.Proofs.YtfcmnkhfmofioaaDoor
open Go.RowKit

/-- Numbers that are bytes. -/
def Byt (zs : List Int) : Prop := ∀ z ∈ zs, 0 ≤ z ∧ z ≤ 255
/-- Bytes, given as numbers, as a string. -/
def strOf (zs : List Int) : ByteArray := ⟨(zs.map fun z => UInt8.ofNat z.toNat).toArray⟩
/-- Bytes as numbers. -/
def ints (l : List UInt8) : List Int := l.map fun c => (c.toNat : Int)
theorem ints_app (a b : List UInt8) : ints (a ++ b) = ints a ++ ints b := by unfold ints; rw [List.map_append]
theorem ints_len (a : List UInt8) : (ints a).length = a.length := by unfold ints; rw [List.length_map]
theorem ints_byt (l : List UInt8) : Byt (ints l) := by
  intro z hz
  unfold ints at hz
  obtain ⟨c, _, rfl⟩ := List.mem_map.1 hz
  have := c.toNat_lt
  omega
theorem strOf_ints (l : List UInt8) : strOf (ints l) = ⟨l.toArray⟩ := by
  unfold strOf ints
  rw [List.map_map]
  congr 2
  conv => rhs; rw [← List.map_id l]
  apply List.map_congr_left
  intro c _
  simp
/-- Bytes that lie in memory: a slice of them; none of them, or at least one. -/
structure Row1 (w : World) (a : Option Addr) (len cap : Nat) (es : List Int) (b off : Nat) : Prop where
  at_ : a = some ⟨b, off, none⟩
  one : 1 ≤ len
  cap_ : len ≤ cap
  len_ : es.length = len
  bd : Byt es
  cell : ∀ i, i < len → w.cell? ⟨b, off + i, none⟩ = some (.int .u8 (es.getD i 0))
  old : b < w.heap.size
def Bs (w : World) (a : Option Addr) (len cap : Nat) (es : List Int) : Prop :=
  (len = 0 ∧ es = [] ∧ (a = none → cap = 0)) ∨ ∃ b off, Row1 w a len cap es b off
theorem Row1.on {w w' : World} {a : Option Addr} {len cap : Nat} {es : List Int} {b off : Nat} (h : Row1 w a len cap es b off) (hb : Below w.heap.size w w') : Row1 w' a len cap es b off :=
  ⟨h.at_, h.one, h.cap_, h.len_, h.bd, fun i hi => (hb.cell (p := ⟨b, off + i, none⟩) h.old).trans (h.cell i hi), Nat.lt_of_lt_of_le h.old hb.size⟩
theorem Bs.on {w w' : World} {a : Option Addr} {len cap : Nat} {es : List Int} (h : Bs w a len cap es) (hb : Below w.heap.size w w') : Bs w' a len cap es := by
  rcases h with h | ⟨b, off, r⟩
  · exact .inl h
  · exact .inr ⟨b, off, r.on hb⟩
theorem Bs.len_ {w : World} {a : Option Addr} {len cap : Nat} {es : List Int} (h : Bs w a len cap es) : es.length = len := by
  rcases h with ⟨h1, h2, _⟩ | ⟨b, off, r⟩
  · rw [h1, h2]; rfl
  · exact r.len_
theorem Bs.bd {w : World} {a : Option Addr} {len cap : Nat} {es : List Int} (h : Bs w a len cap es) : Byt es := by
  rcases h with ⟨h1, h2, _⟩ | ⟨b, off, r⟩
  · rw [h2]; intro z hz; cases hz
  · exact r.bd
theorem add_at (b off i : Nat) : (⟨b, off, none⟩ : Addr).add i = ⟨b, off + i, none⟩ := by unfold Addr.add; split <;> simp_all
/-- 'string(x)' of bytes that lie in memory. -/
theorem conv_bs {w : World} {a : Option Addr} {len cap : Nat} {es : List Int} (h : Bs w a len cap es) :
    (convert 22 9 (.slice a len cap)).run Tryd.prog w = .ok (.string (strOf es)) w := by
  rcases h with ⟨rfl, rfl, _⟩ | ⟨b, off, r⟩
  · rw [run_convert_bytes_string w 22 9 5 _ 0 cap Tryd.underlying22 Tryd.underlying5 Tryd.underlying9]
    cases a <;> simp [Conv.bytesToString, loadCells] <;> rfl
  · rw [r.at_]
    have hn := r.len_
    have h := run_convert_bytes_back (P := Tryd.prog) w 22 9 5 ⟨b, off, none⟩ cap (es.map fun z => UInt8.ofNat z.toNat) Tryd.underlying22 Tryd.underlying5 Tryd.underlying9 (fun j hj => by
      have hj' : j < es.length := by simpa using hj
      rw [add_at, r.cell j (by omega)]
      have := r.bd _ (List.getElem_mem hj')
      simp only [List.getElem_map, UInt8.toNat_ofNat', List.getD, List.getElem?_eq_getElem hj', Option.getD_some]
      congr 2
      omega)
    rw [List.length_map, hn] at h
    exact h
theorem getD_ints (l : List UInt8) (i : Nat) (h : i < l.length) : (ints l).getD i 0 = (l[i].toNat : Int) := by
  unfold ints
  simp [List.getD, List.getElem?_eq_getElem h]
/-- '[]byte(s)': a row of its own that holds the bytes. -/
theorem bytes_of (S : ByteArray) (w : World) : ∃ C W3, (convert 9 22 (.string S)).run Tryd.prog w = .ok (.slice (some ⟨w.heap.size, 0, none⟩) S.size C) W3 ∧ S.size ≤ C ∧
    (∀ i, i < S.size → W3.cell? ⟨w.heap.size, i, none⟩ = some (.int .u8 ((ints S.data.toList).getD i 0))) ∧ (∀ i, i < S.size → W3.frozen? ⟨w.heap.size, i, none⟩ = false) ∧ Below w.heap.size w W3 ∧ w.heap.size < W3.heap.size := by
  have hr := run_bytes_of_string (P := Tryd.prog) w 9 22 5 S Tryd.underlying9 Tryd.underlying22 Tryd.underlying5
  have hge := grownCap_ge w S.size 0 5
  obtain ⟨C, hC⟩ : ∃ C, C = grownCap w S.size 0 5 := ⟨_, rfl⟩
  rw [← hC] at hr hge
  have hh : (w.drew.alloc (.cells (bytesRow S C) 5 ((bytesRow S C).size, (bytesRow S C).size + 1))).heap[w.heap.size]? = some (.cells (bytesRow S C) 5 ((bytesRow S C).size, (bytesRow S C).size + 1)) := by
    show (w.heap.push _)[w.heap.size]? = _
    simp
  have hsz : (bytesRow S C).size = C := by
    unfold bytesRow
    rw [Array.size_append, Array.size_map, Array.size_replicate]
    have : S.data.size = S.size := rfl
    omega
  refine ⟨C, _, hr, hge, fun i hi => ?_, fun i hi => ?_, ?_, ?_⟩
  · unfold World.cell?
    rw [hh]
    have hi2 : i < S.data.toList.length := by rw [Array.length_toList]; exact hi
    show (bytesRow S C)[i]? = _
    rw [getD_ints _ _ hi2]
    unfold bytesRow
    rw [Array.getElem?_append_left (by rw [Array.size_map]; exact hi), Array.getElem?_map]
    have hi3 : i < S.data.size := hi
    rw [Array.getElem?_eq_getElem hi3]
    rfl
  · unfold World.frozen?
    rw [hh]
    show (decide ((bytesRow S C).size ≤ i) && decide (i < (bytesRow S C).size + 1)) = false
    rw [hsz, decide_eq_false (by omega)]
    rfl
  · exact (Below.refl _ _).drew.alloc (Nat.le_refl _) _
  · show w.heap.size < (w.heap.push _).size
    simp
theorem set_bs {w W : World} {S : ByteArray} {C k : Nat} {t : Int} (hk : k < S.size) (ht : 0 ≤ t ∧ t ≤ 255) (hC : S.size ≤ C)
    (hc : ∀ i, i < S.size → W.cell? ⟨w.heap.size, i, none⟩ = some (.int .u8 ((ints S.data.toList).getD i 0))) (hs : w.heap.size < W.heap.size) :
    Bs (W.setCell ⟨w.heap.size, k, none⟩ (.int .u8 t)) (some ⟨w.heap.size, 0, none⟩) S.size C ((ints S.data.toList).set k t) := by
  have hl : S.data.toList.length = S.size := rfl
  refine .inr ⟨w.heap.size, 0, rfl, by omega, hC, by rw [List.length_set, ints_len]; rfl, fun z hz => ?_, fun i hi => ?_, by rw [World.size_setCell]; exact hs⟩
  · rcases List.mem_or_eq_of_mem_set hz with h | h
    · exact ints_byt _ z h
    · rw [h]; exact ht
  · rw [Nat.zero_add]
    have hil : i < (ints S.data.toList).length := by rw [ints_len]; omega
    by_cases hik : i = k
    · subst hik
      rw [World.cell?_setCell_same (h := hc i hk)]
      simp [List.getD, List.getElem?_set_self hil]
    · rw [World.cell?_setCell_other (h := fun e => hik (congrArg Addr.off e).symm), hc i hi]
      simp [List.getD, List.getElem?_set_ne (fun e : k = i => hik e.symm)]
theorem strOf_set (l : List UInt8) (k : Nat) (t : Int) : (strOf ((ints l).set k t)).data.toList = l.set k (UInt8.ofNat t.toNat) := by
  unfold strOf ints
  show (List.map _ _) = _
  rw [List.map_set, List.map_map]
  congr 1
  conv => rhs; rw [← List.map_id l]
  apply List.map_congr_left
  intro c _
  simp
/-- '[]byte{c}': one byte, in a new row. -/
theorem one_bs (w : World) (c : Int) (h0 : 0 ≤ c) (h1 : c ≤ 255) : Bs (w.alloc (.cells #[.int .u8 c] 5)) (some ⟨w.heap.size, 0, none⟩) 1 1 [c] := by
  refine .inr ⟨_, 0, rfl, by decide, by decide, rfl, (by intro z hz; simp at hz; omega), fun i hi => ?_, by simp⟩
  have : i = 0 := by omega
  subst this
  have hh : (w.alloc (Obj.cells #[Value.int .u8 c] 5)).heap[w.heap.size]? = some (Obj.cells #[Value.int .u8 c] 5) := by
    show (w.heap.push _)[w.heap.size]? = _
    simp
  unfold World.cell?
  rw [hh]
  rfl
end Go.Proofs.YtfcmnkhfmofioaaDoor

namespace Go.Proofs.YtfcmnkhfmofioaaDoor
open Go.RowKit

/-- Bytes as cells. -/
def byU (l : List UInt8) : List Value := byV (ints l)
theorem byU_len (l : List UInt8) : (byU l).length = l.length := by unfold byU byV; rw [List.length_map, ints_len]
theorem byU_get {l : List UInt8} {i : Nat} (h : i < l.length) : (byU l)[i]? = some (.int .u8 ((ints l).getD i 0)) := by
  unfold byU byV
  have : i < (ints l).length := by rw [ints_len]; exact h
  rw [List.getElem?_map, List.getElem?_eq_getElem this]
  simp [List.getD, List.getElem?_eq_getElem this]
/-- A value's bytes, in a row of its own. -/
def ValAt (n0 : Nat) (w : World) (a : Option Addr) (c : Nat) (l : List UInt8) : Prop := w.ownsRow n0 5 1 (.slice a l.length c) l.length (byU l)
theorem ValAt.bs {n0 : Nat} {w : World} {a : Option Addr} {c : Nat} {l : List UInt8} (h : ValAt n0 w a c l) : Bs w a l.length c (ints l) := by
  by_cases h0 : l.length = 0
  · refine .inl ⟨h0, ?_, fun ha => ?_⟩
    · rw [List.eq_nil_of_length_eq_zero h0]
      rfl
    · subst ha
      rcases h.2 with ⟨h1, _⟩ | ⟨g, cap, cur, h1, _⟩
      · exact (Value.slice.inj h1).2.2
      · cases h1
  · obtain ⟨g, cap, e⟩ := own_form h (by omega)
    cases e
    have hc := own_cap h
    refine .inr ⟨g, 0, rfl, by omega, hc.1, ints_len l, ints_byt l, fun i hi => ?_, (own_at h rfl).2.1⟩
    have h' : w.ownsRow n0 5 1 (.slice (some ⟨g, 0, none⟩) l.length c) l.length (byU l) := h
    rw [Nat.zero_add, h'.cellAt i (by omega), byU_get hi]
theorem ValAt.base {n0 n1 : Nat} {w : World} {a : Option Addr} {c : Nat} {l : List UInt8} (h : ValAt n0 w a c l) (hn : n1 ≤ n0) : ValAt n1 w a c l := by
  refine ⟨h.1, ?_⟩
  rcases h.2 with h1 | ⟨g, cap, cur, h1, h2, h3⟩
  · exact .inl h1
  · exact .inr ⟨g, cap, cur, h1, Nat.le_trans hn h2, h3⟩
/-- All of them are appended. -/
theorem run_append_bs (w : World) (base : Nat) (ty : TypeId) {v : Value} {n : Nat} {xs : List Value} {a : Option Addr} {len cap : Nat} {l : List UInt8} (hown : w.ownsRow base 5 1 v n xs) (hl : l.length = len) (hr : Bs w a len cap (ints l)) (hn : n + len ≤ 100000000) (hb : base ≤ w.heap.size) :
    ∃ v' w', (Builtin.append_ #[22, 22] ty #[v, .slice a len cap]).run Tryd.prog w = .ok v' w' ∧ w'.ownsRow base 5 1 v' (n + len) (xs ++ byU l) ∧ w.grownBy w' v.ownBlock ∧ (v'.ownBlock = v.ownBlock ∨ v'.ownBlock = some w.heap.size) := by
  obtain ⟨i0, hi, hz0, hz1, hz2⟩ := info_parts info_byte
  cases a with
  | none =>
    obtain ⟨rfl, h0, hc⟩ : len = 0 ∧ ints l = [] ∧ cap = 0 := by
      rcases hr with ⟨h1, h2, h3⟩ | ⟨b, off, r⟩
      · exact ⟨h1, h2, h3 rfl⟩
      · cases r.at_
    subst hc
    refine ⟨v, w, run_append_owned_none w base 22 ty 5 i0 1 Tryd.underlying22 hi v n xs hown, ?_, gr_refl _ _, .inl rfl⟩
    unfold byU
    rw [h0]
    simpa [byV] using hown
  | some x =>
    have hlb : (byU l).length = len * 1 := by rw [byU_len, hl, Nat.mul_one]
    have hnews : ∀ (j : Nat) (u : Value), (byU l)[j]? = some u → w.cell? (x.add j) = some u := by
      intro j u hu
      have hj : j < len := by
        have := (List.getElem?_eq_some_iff.1 hu).1
        rw [byU_len] at this
        omega
      rcases hr with ⟨h1, _⟩ | ⟨b, off, r⟩
      · omega
      · obtain rfl : x = ⟨b, off, none⟩ := Option.some.inj r.at_
        rw [add_at, r.cell j hj, ← hu, byU_get (by omega)]
    obtain ⟨v', w', q1, q2, q3, _, q5⟩ := run_append_own_at (P := Tryd.prog) w base 22 ty 5 i0 (.int .u8 0) 1 1 Tryd.underlying22 hi hz0 hz1 hz2 rfl (by decide) v n xs hown x len cap (byU l) hlb hnews (fun u hu => by
      unfold byU byV at hu
      obtain ⟨z, _, rfl⟩ := List.mem_map.1 hu
      rfl) (by unfold maxLen; omega) (by omega) hb
    exact ⟨v', w', q1, q2, q3, q5⟩
theorem wpList_append_bs {w : World} {ops : Array Oper} {rest : List Oper} {o : Oper} {a : Act} {Q : Exit → Act → World → Prop} (hgd : o.guard = none) (s x : Operand) (ho : o.op = .call { callee := .builtin .append, args := #[s, x], argTypes := #[22, 22] })
    (base : Nat) (v : Value) (n : Nat) (xs : List Value) (hs : a.eval s = v) (hown : w.ownsRow base 5 1 v n xs) (b : Option Addr) (len cap : Nat) (l : List UInt8) (hx : a.eval x = .slice b len cap) (hl : l.length = len) (hr : Bs w b len cap (ints l)) (hn : n + len ≤ 100000000) (hb : base ≤ w.heap.size)
    (h : ∀ v' w', w'.ownsRow base 5 1 v' (n + len) (xs ++ byU l) → w.grownBy w' v.ownBlock → (v'.ownBlock = v.ownBlock ∨ v'.ownBlock = some w.heap.size) → wpList Tryd.prog ops Q rest (a.put o.dst v') w') :
    wpList Tryd.prog ops Q (o :: rest) a w := by
  refine wpList_plain hgd fun K hK => ?_
  obtain ⟨v', w', hr, h2, h3, h5⟩ := run_append_bs w base o.type hown hl hr hn hb
  unfold Oper.wp execOp
  simp only [ho, resolve, invoke, builtin, Sem.run_bind, Sem.run_pure, Result.andThen_ok, List.map_toArray, List.map_cons, List.map_nil, hs, hx, hr]
  exact hK _ _ (h v' w' h2 h3 h5)
theorem Bs.alloc {w : World} {a : Option Addr} {len cap : Nat} {es : List Int} (h : Bs w a len cap es) (o : Obj) : Bs (w.alloc o) a len cap es := h.on (below_gr (World.grownBy_alloc w o none))
theorem owns_empty (w : World) : (w.alloc (.cells #[] 5)).ownsRow w.heap.size 5 1 (.slice (some ⟨w.heap.size, 0, none⟩) 0 0) 0 [] :=
  ⟨rfl, .inr ⟨w.heap.size, 0, #[], rfl, Nat.le_refl _, World.alloc_heap_new w _, Nat.le_refl _, Nat.zero_le _, rfl, rfl⟩⟩
theorem eql_nil (a : Option Addr) (n c : Nat) (w : World) : (binOp .eql 22 (.slice a n c) (.slice none 0 0)).run Tryd.prog w = .ok (.bool a.isNone) w := by
  simp only [binOp]
  simp [run_equal_slice_nil w 22 5 a n c Tryd.underlying22]
/-- Bytes that came in. -/
theorem rowU {w : World} {a : Option Addr} {len cap : Nat} {zs : List Int} (h : IsRow .u8 w a len cap zs) : ∃ u : List UInt8, u.length = len ∧ Bs w a len cap (ints u) ∧ cap ≤ maxLen ∧ len ≤ cap := by
  rcases h with ⟨rfl, rfl, rfl, rfl⟩ | ⟨x, rfl, h2, h3, h4, h5, h6⟩
  · exact ⟨[], rfl, .inl ⟨rfl, rfl, fun _ => rfl⟩, Nat.zero_le _, Nat.le_refl _⟩
  · obtain ⟨u, hu⟩ : ∃ u : List UInt8, zs.take len = ints u := by
      refine ⟨(zs.take len).map fun z => UInt8.ofNat z.toNat, ?_⟩
      unfold ints
      rw [List.map_map]
      conv => lhs; rw [← List.map_id (zs.take len)]
      apply List.map_congr_left
      intro z hz
      have := u8_wf (h6 z (List.mem_of_mem_take hz))
      simp only [Function.comp, UInt8.toNat_ofNat', id]
      omega
    have hul : u.length = len := by rw [← ints_len, ← hu, List.length_take]; omega
    refine ⟨u, hul, ?_, h3, h2⟩
    rw [← hu]
    by_cases h0 : len = 0
    · exact .inl ⟨h0, by rw [h0]; rfl, fun e => by cases e⟩
    · have c0 := h5 0 (by omega)
      have hspot : x.spot = none := by simpa [Addr.add] using World.cell?_spot c0
      obtain ⟨b, off, spot⟩ := x
      simp only at hspot
      subst hspot
      refine .inr ⟨b, off, rfl, by omega, h2, by rw [List.length_take]; omega, fun z hz' => u8_wf (h6 z (List.mem_of_mem_take hz')), fun i hi => ?_, ?_⟩
      · have h1 := h5 i (by omega)
        rw [add_at] at h1
        rw [h1]
        congr 2
        simp [List.getD, hi]
      · rw [add_at] at c0
        exact World.block_lt_of_cell? w _ c0
/-- A row of bytes: where it lies, and that its length is within its room. -/
structure Bu (w : World) (a : Option Addr) (len cap : Nat) (l : List UInt8) : Prop where
  n : l.length = len
  b : Bs w a len cap (ints l)
  c : len ≤ cap
  m : cap ≤ maxLen
theorem Bu.on {w w' : World} {a : Option Addr} {len cap : Nat} {l : List UInt8} (h : Bu w a len cap l) (hb : Below w.heap.size w w') : Bu w' a len cap l := ⟨h.n, h.b.on hb, h.c, h.m⟩
theorem Bu.alloc {w : World} {a : Option Addr} {len cap : Nat} {l : List UInt8} (h : Bu w a len cap l) (o : Obj) : Bu (w.alloc o) a len cap l := ⟨h.n, h.b.alloc o, h.c, h.m⟩
theorem Bu.drew {w : World} {a : Option Addr} {len cap : Nat} {l : List UInt8} (h : Bu w a len cap l) : Bu w.drew a len cap l := h.on (Below.drew (Below.refl _ _))
theorem Bu.of {w : World} {a : Option Addr} {len cap : Nat} {zs : List Int} (h : IsRow .u8 w a len cap zs) : ∃ u : List UInt8, Bu w a len cap u := by
  obtain ⟨u, h1, h2, h3, h4⟩ := rowU h
  exact ⟨u, h1, h2, h4, h3⟩
theorem ValAt.bu {n0 : Nat} {w : World} {a : Option Addr} {c : Nat} {l : List UInt8} (h : ValAt n0 w a c l) : Bu w a l.length c l := ⟨rfl, h.bs, (own_cap h).1, (own_cap h).2⟩
/-- 'b[i:j]' of bytes: the first j, without the first i, whatever room is told; as an equation of every world. -/
theorem getD_cut (l : List UInt8) (i k : Nat) : (ints ((l.drop i))).getD k 0 = (ints l).getD (i + k) 0 := by
  unfold ints
  simp [List.getD, List.getElem?_drop]
theorem getD_take (l : List UInt8) {j k : Nat} (h : k < j) : (ints ((l.take j))).getD k 0 = (ints l).getD k 0 := by
  unfold ints
  simp [List.getD, h]
/-- 'b[:j:j]' -/
theorem Bu.front {w : World} {a : Option Addr} {len cap : Nat} {l : List UInt8} (h : Bu w a len cap l) {j c : Nat} (hj : j ≤ len) (hc : j ≤ c) (hc2 : c ≤ cap) : Bu w a j c (l.take j) := by
  refine ⟨by rw [List.length_take, h.n]; omega, ?_, hc, Nat.le_trans hc2 h.m⟩
  by_cases h0 : j = 0
  · refine .inl ⟨h0, by rw [h0]; rfl, fun ha => ?_⟩
    rcases h.b with ⟨h1, h2, h3⟩ | ⟨b, off, r⟩
    · have := h3 ha; omega
    · rw [ha] at r; cases r.at_
  · rcases h.b with ⟨h1, h2, h3⟩ | ⟨b, off, r⟩
    · omega
    · refine .inr ⟨b, off, r.at_, by omega, hc, by rw [ints_len, List.length_take, h.n]; omega, ints_byt _, fun i hi => ?_, r.old⟩
      rw [r.cell i (by omega), getD_take l hi]
/-- 'b[i:]' -/
theorem Bu.back {w : World} {a : Option Addr} {len cap : Nat} {l : List UInt8} (h : Bu w a len cap l) {i : Nat} (hi : i ≤ len) : ∃ a', (∀ W : World, (Instr.sliceAt 22 (.slice a len cap) (some (.int .i64 (i : Int))) none none).run Tryd.prog W = .ok (.slice a' (len - i) (cap - i)) W) ∧
    ∀ W : World, Bu W a len cap l → Bu W a' (len - i) (cap - i) (l.drop i) := by
  have hc := h.c
  have h1 : (i : Int) ≤ (len : Int) := by omega
  have h0 : ¬ (i : Int) < 0 := by omega
  by_cases e : cap = i
  · refine ⟨a, fun W => ?_, fun W H => ⟨by rw [List.length_drop, H.n], .inl ⟨by omega, by rw [List.drop_eq_nil_of_le (by rw [H.n]; omega)]; rfl, fun _ => by omega⟩, by omega, by have := H.m; omega⟩⟩
    subst e
    cases a <;> go_simp
  · cases a with
    | none =>
      rcases h.b with ⟨_, _, h3⟩ | ⟨b, off, r⟩
      · have := h3 rfl; omega
      · cases r.at_
    | some x =>
      refine ⟨some (x.add i), fun W => ?_, fun W H => ⟨by rw [List.length_drop, H.n], ?_, by omega, by have := H.m; omega⟩⟩
      · go_simp
      · by_cases hz : len - i = 0
        · exact .inl ⟨hz, by rw [List.drop_eq_nil_of_le (by rw [H.n]; omega)]; rfl, fun e => by cases e⟩
        · rcases H.b with ⟨h4, _, _⟩ | ⟨b, off, r⟩
          · omega
          · obtain rfl : x = ⟨b, off, none⟩ := Option.some.inj r.at_
            refine .inr ⟨b, off + i, by rw [add_at], by omega, by omega, by rw [ints_len, List.length_drop, H.n], ints_byt _, fun k hk => ?_, r.old⟩
            rw [Nat.add_assoc, r.cell (i + k) (by omega), getD_cut]
/-- 'b[i:j:j]' -/
theorem Bu.mid {w : World} {a : Option Addr} {len cap : Nat} {l : List UInt8} (h : Bu w a len cap l) {i j m : Nat} (hm : i + m = j) (h0 : 1 ≤ m) (hj : j ≤ len) (zj : Int) (hz : zj = (j : Int)) : ∃ a', (∀ W : World, (Instr.sliceAt 22 (.slice a len cap) (some (.int .i64 (i : Int))) (some (.int .i64 zj)) (some (.int .i64 zj))).run Tryd.prog W = .ok (.slice a' m m) W) ∧
    Bu w a' m m ((l.drop i).take m) := by
  have hc := h.c
  rcases h.b with ⟨h4, _, _⟩ | ⟨b, off, r⟩
  · omega
  · refine ⟨some ⟨b, off + i, none⟩, fun W => ?_, by rw [List.length_take, List.length_drop, h.n]; omega, .inr ⟨b, off + i, rfl, h0, Nat.le_refl _, by rw [ints_len, List.length_take, List.length_drop, h.n]; omega, ints_byt _, fun k hk => ?_, r.old⟩, Nat.le_refl _, by have := h.m; omega⟩
    · have e := r.at_
      subst e hz
      have h1 : (j : Int) ≤ (cap : Int) := by omega
      have h2 : (i : Int) ≤ (j : Int) := by omega
      have h3 : ¬ j = i := by omega
      have h4 : j - i = m := by omega
      go_simp
    · rw [Nat.add_assoc, r.cell (i + k) (by omega), getD_take _ hk, getD_cut]
/-- One byte of a row. -/
theorem Bu.cell {w : World} {a : Option Addr} {len cap : Nat} {l : List UInt8} (h : Bu w a len cap l) (h1 : 1 ≤ len) : ∃ b off, a = some ⟨b, off, none⟩ ∧ ∀ i, ∀ hi : i < l.length, w.cell? ⟨b, off + i, none⟩ = some (.int .u8 (l[i].toNat : Int)) := by
  rcases h.b with ⟨h4, _, _⟩ | ⟨b, off, r⟩
  · omega
  · refine ⟨b, off, r.at_, fun i hi => ?_⟩
    rw [r.cell i (by rw [← h.n]; exact hi), getD_ints l i hi]
end Go.Proofs.YtfcmnkhfmofioaaDoor
