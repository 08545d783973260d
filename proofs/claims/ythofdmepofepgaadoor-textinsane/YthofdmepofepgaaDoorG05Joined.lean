/- Slices of bytes that came in, and their being appended to a row of one's own. Conditions: none. Bytes that lie in memory, and texts made of them. Conditions: none of the program's variables is read. -/
import Derived.Test.YthofdmepofepgaaDoorG03Joined
import Derived.Maps.AppendAt
import Derived.Laws.OwnMore
import Derived.Test.YthofdmepofepgaaDoorG00Joined
import Derived.Laws.IdiomStrings
namespace Go.Proofs.YthofdmepofepgaaDoor
open Go.RowKit

def IsRow (k : IntKind) (w : World) (a : Option Addr) (len cap : Nat) (zs : List Int) : Prop :=
  (a = none ∧ len = 0 ∧ cap = 0 ∧ zs = []) ∨
  ∃ x, a = some x ∧ len ≤ cap ∧ cap ≤ maxLen ∧ zs.length = cap ∧ (∀ i, i < zs.length → w.cell? (x.add i) = some (.int k (zs.getD i 0))) ∧ ∀ n ∈ zs, (Lit.int k n).wf = true
theorem IsRow.below {k : IntKind} {w w' : World} {a : Option Addr} {len cap : Nat} {zs : List Int} (h : IsRow k w a len cap zs) (hb : Below w.heap.size w w') : IsRow k w' a len cap zs := by
  rcases h with h | ⟨x, h1, h2, h3, h4, h5, h6⟩
  · exact .inl h
  · exact .inr ⟨x, h1, h2, h3, h4, fun i hi => (hb.cell (p := x.add i) (World.block_lt_of_cell? w _ (h5 i hi))).trans (h5 i hi), h6⟩
theorem IsRow.len_ {k : IntKind} {w : World} {a : Option Addr} {len cap : Nat} {zs : List Int} (h : IsRow k w a len cap zs) : (zs.take len).length = len ∧ len ≤ maxLen := by
  rcases h with ⟨_, rfl, _, rfl⟩ | ⟨x, h1, h2, h3, h4, h5, h6⟩
  · exact ⟨rfl, Nat.zero_le _⟩
  · exact ⟨by rw [List.length_take, h4]; omega, by omega⟩
def byV (l : List Int) : List Value := l.map (Value.int .u8)
theorem info_byte : (Tryd.prog.info? 5).map (fun i => (i.zero, i.size, i.bytes)) = some (some (.int .u8 0), 1, 1) := by kernel_rfl
/-- All of them are appended. -/
theorem run_append_bytes (w : World) (base : Nat) (ty : TypeId) {v : Value} {n : Nat} {xs : List Value} {a : Option Addr} {len cap : Nat} {zs : List Int} (hown : w.ownsRow base 5 1 v n xs) (hr : IsRow .u8 w a len cap zs) (hn : n + len ≤ 100000000) (hb : base ≤ w.heap.size) :
    ∃ v' w', (Builtin.append_ #[22, 22] ty #[v, .slice a len cap]).run Tryd.prog w = .ok v' w' ∧ w'.ownsRow base 5 1 v' (n + len) (xs ++ byV (zs.take len)) ∧ w.grownBy w' v.ownBlock ∧ (v'.ownBlock = v.ownBlock ∨ v'.ownBlock = some w.heap.size) := by
  obtain ⟨i0, hi, hz0, hz1, hz2⟩ := info_parts info_byte
  rcases hr with ⟨rfl, rfl, rfl, rfl⟩ | ⟨x, rfl, h2, h3, h4, h5, h6⟩
  · refine ⟨v, w, run_append_owned_none w base 22 ty 5 i0 1 Tryd.underlying22 hi v n xs hown, ?_, gr_refl _ _, .inl rfl⟩
    simpa [byV] using hown
  · have hl : (byV (zs.take len)).length = len * 1 := by unfold byV; rw [List.length_map, List.length_take, h4]; omega
    have hnews : ∀ (j : Nat) (u : Value), (byV (zs.take len))[j]? = some u → w.cell? (x.add j) = some u := by
      intro j u hu
      unfold byV at hu
      have hj : j < len := by
        have := (List.getElem?_eq_some_iff.1 hu).1
        rw [List.length_map, List.length_take] at this
        omega
      have hjz : j < zs.length := by omega
      rw [List.getElem?_map, List.getElem?_take, if_pos hj, List.getElem?_eq_getElem hjz] at hu
      rw [h5 j hjz, List.getD, List.getElem?_eq_getElem hjz]
      exact hu
    obtain ⟨v', w', q1, q2, q3, _, q5⟩ := run_append_own_at (P := Tryd.prog) w base 22 ty 5 i0 (.int .u8 0) 1 1 Tryd.underlying22 hi hz0 hz1 hz2 rfl (by decide) v n xs hown x len cap (byV (zs.take len)) hl hnews (fun u hu => by
      unfold byV at hu
      obtain ⟨z, _, rfl⟩ := List.mem_map.1 hu
      rfl) (by unfold maxLen; omega) (by omega) hb
    exact ⟨v', w', q1, q2, q3, q5⟩
theorem wpList_append_bytes {w : World} {ops : Array Oper} {rest : List Oper} {o : Oper} {a : Act} {Q : Exit → Act → World → Prop} (hgd : o.guard = none) (s x : Operand) (ho : o.op = .call { callee := .builtin .append, args := #[s, x], argTypes := #[22, 22] })
    (base : Nat) (v : Value) (n : Nat) (xs : List Value) (hs : a.eval s = v) (hown : w.ownsRow base 5 1 v n xs) (b : Option Addr) (len cap : Nat) (zs : List Int) (hx : a.eval x = .slice b len cap) (hr : IsRow .u8 w b len cap zs) (hn : n + len ≤ 100000000) (hb : base ≤ w.heap.size)
    (h : ∀ v' w', w'.ownsRow base 5 1 v' (n + len) (xs ++ byV (zs.take len)) → w.grownBy w' v.ownBlock → (v'.ownBlock = v.ownBlock ∨ v'.ownBlock = some w.heap.size) → wpList Tryd.prog ops Q rest (a.put o.dst v') w') :
    wpList Tryd.prog ops Q (o :: rest) a w := by
  refine wpList_plain hgd fun K hK => ?_
  obtain ⟨v', w', hr, h2, h3, h5⟩ := run_append_bytes w base o.type hown hr hn hb
  unfold Oper.wp execOp
  simp only [ho, resolve, invoke, builtin, Sem.run_bind, Sem.run_pure, Result.andThen_ok, List.map_toArray, List.map_cons, List.map_nil, hs, hx, hr]
  exact hK _ _ (h v' w' h2 h3 h5)
end Go.Proofs.YthofdmepofepgaaDoor

namespace Go.Proofs.YthofdmepofepgaaDoor
open Go.RowKit

/-- Numbers that are bytes. -/
def Byt (zs : List Int) : Prop := ∀ z ∈ zs, 0 ≤ z ∧ z ≤ 255
/-- Bytes, given as numbers, as a string. -/
def strOf (zs : List Int) : ByteArray := ⟨(zs.map fun z => UInt8.ofNat z.toNat).toArray⟩
/-- Bytes as numbers. -/
def ints (l : List UInt8) : List Int := l.map fun c => (c.toNat : Int)
theorem ints_app (a b : List UInt8) : ints (a ++ b) = ints a ++ ints b := by unfold ints; rw [List.map_append]
theorem ints_len (a : List UInt8) : (ints a).length = a.length := by unfold ints; rw [List.length_map]
theorem ints_byt (l : List UInt8) : Byt (ints l) := by
  intro z hz
  unfold ints at hz
  obtain ⟨c, _, rfl⟩ := List.mem_map.1 hz
  have := c.toNat_lt
  omega
theorem strOf_ints (l : List UInt8) : strOf (ints l) = ⟨l.toArray⟩ := by
  unfold strOf ints
  rw [List.map_map]
  congr 2
  conv => rhs; rw [← List.map_id l]
  apply List.map_congr_left
  intro c _
  simp
/-- Bytes that lie in memory: a slice of them; none of them, or at least one. -/
structure Row1 (w : World) (a : Option Addr) (len cap : Nat) (es : List Int) (b off : Nat) : Prop where
  at_ : a = some ⟨b, off, none⟩
  one : 1 ≤ len
  cap_ : len ≤ cap
  len_ : es.length = len
  bd : Byt es
  cell : ∀ i, i < len → w.cell? ⟨b, off + i, none⟩ = some (.int .u8 (es.getD i 0))
  old : b < w.heap.size
def Bs (w : World) (a : Option Addr) (len cap : Nat) (es : List Int) : Prop :=
  (len = 0 ∧ es = [] ∧ (a = none → cap = 0)) ∨ ∃ b off, Row1 w a len cap es b off
theorem Row1.on {w w' : World} {a : Option Addr} {len cap : Nat} {es : List Int} {b off : Nat} (h : Row1 w a len cap es b off) (hb : Below w.heap.size w w') : Row1 w' a len cap es b off :=
  ⟨h.at_, h.one, h.cap_, h.len_, h.bd, fun i hi => (hb.cell (p := ⟨b, off + i, none⟩) h.old).trans (h.cell i hi), Nat.lt_of_lt_of_le h.old hb.size⟩
theorem Bs.on {w w' : World} {a : Option Addr} {len cap : Nat} {es : List Int} (h : Bs w a len cap es) (hb : Below w.heap.size w w') : Bs w' a len cap es := by
  rcases h with h | ⟨b, off, r⟩
  · exact .inl h
  · exact .inr ⟨b, off, r.on hb⟩
theorem Bs.len_ {w : World} {a : Option Addr} {len cap : Nat} {es : List Int} (h : Bs w a len cap es) : es.length = len := by
  rcases h with ⟨h1, h2, _⟩ | ⟨b, off, r⟩
  · rw [h1, h2]; rfl
  · exact r.len_
theorem Bs.bd {w : World} {a : Option Addr} {len cap : Nat} {es : List Int} (h : Bs w a len cap es) : Byt es := by
  rcases h with ⟨h1, h2, _⟩ | ⟨b, off, r⟩
  · rw [h2]; intro z hz; cases hz
  · exact r.bd
theorem add_at (b off i : Nat) : (⟨b, off, none⟩ : Addr).add i = ⟨b, off + i, none⟩ := by unfold Addr.add; split <;> simp_all
/-- 'string(x)' of bytes that lie in memory. -/
theorem conv_bs {w : World} {a : Option Addr} {len cap : Nat} {es : List Int} (h : Bs w a len cap es) :
    (convert 22 9 (.slice a len cap)).run Tryd.prog w = .ok (.string (strOf es)) w := by
  rcases h with ⟨rfl, rfl, _⟩ | ⟨b, off, r⟩
  · rw [run_convert_bytes_string w 22 9 5 _ 0 cap Tryd.underlying22 Tryd.underlying5 Tryd.underlying9]
    cases a <;> simp [Conv.bytesToString, loadCells] <;> rfl
  · rw [r.at_]
    have hn := r.len_
    have h := run_convert_bytes_back (P := Tryd.prog) w 22 9 5 ⟨b, off, none⟩ cap (es.map fun z => UInt8.ofNat z.toNat) Tryd.underlying22 Tryd.underlying5 Tryd.underlying9 (fun j hj => by
      have hj' : j < es.length := by simpa using hj
      rw [add_at, r.cell j (by omega)]
      have := r.bd _ (List.getElem_mem hj')
      simp only [List.getElem_map, UInt8.toNat_ofNat', List.getD, List.getElem?_eq_getElem hj', Option.getD_some]
      congr 2
      omega)
    rw [List.length_map, hn] at h
    exact h
theorem getD_ints (l : List UInt8) (i : Nat) (h : i < l.length) : (ints l).getD i 0 = (l[i].toNat : Int) := by
  unfold ints
  simp [List.getD, List.getElem?_eq_getElem h]
/-- '[]byte(s)': a row of its own that holds the bytes. -/
theorem bytes_of (S : ByteArray) (w : World) : ∃ C W3, (convert 9 22 (.string S)).run Tryd.prog w = .ok (.slice (some ⟨w.heap.size, 0, none⟩) S.size C) W3 ∧ S.size ≤ C ∧
    (∀ i, i < S.size → W3.cell? ⟨w.heap.size, i, none⟩ = some (.int .u8 ((ints S.data.toList).getD i 0))) ∧ (∀ i, i < S.size → W3.frozen? ⟨w.heap.size, i, none⟩ = false) ∧ Below w.heap.size w W3 ∧ w.heap.size < W3.heap.size := by
  have hr := run_bytes_of_string (P := Tryd.prog) w 9 22 5 S Tryd.underlying9 Tryd.underlying22 Tryd.underlying5
  have hge := grownCap_ge w S.size 0 5
  obtain ⟨C, hC⟩ : ∃ C, C = grownCap w S.size 0 5 := ⟨_, rfl⟩
  rw [← hC] at hr hge
  have hh : (w.drew.alloc (.cells (bytesRow S C) 5 ((bytesRow S C).size, (bytesRow S C).size + 1))).heap[w.heap.size]? = some (.cells (bytesRow S C) 5 ((bytesRow S C).size, (bytesRow S C).size + 1)) := by
    show (w.heap.push _)[w.heap.size]? = _
    simp
  have hsz : (bytesRow S C).size = C := by
    unfold bytesRow
    rw [Array.size_append, Array.size_map, Array.size_replicate]
    have : S.data.size = S.size := rfl
    omega
  refine ⟨C, _, hr, hge, fun i hi => ?_, fun i hi => ?_, ?_, ?_⟩
  · unfold World.cell?
    rw [hh]
    have hi2 : i < S.data.toList.length := by rw [Array.length_toList]; exact hi
    show (bytesRow S C)[i]? = _
    rw [getD_ints _ _ hi2]
    unfold bytesRow
    rw [Array.getElem?_append_left (by rw [Array.size_map]; exact hi), Array.getElem?_map]
    have hi3 : i < S.data.size := hi
    rw [Array.getElem?_eq_getElem hi3]
    rfl
  · unfold World.frozen?
    rw [hh]
    show (decide ((bytesRow S C).size ≤ i) && decide (i < (bytesRow S C).size + 1)) = false
    rw [hsz, decide_eq_false (by omega)]
    rfl
  · exact (Below.refl _ _).drew.alloc (Nat.le_refl _) _
  · show w.heap.size < (w.heap.push _).size
    simp
theorem set_bs {w W : World} {S : ByteArray} {C k : Nat} {t : Int} (hk : k < S.size) (ht : 0 ≤ t ∧ t ≤ 255) (hC : S.size ≤ C)
    (hc : ∀ i, i < S.size → W.cell? ⟨w.heap.size, i, none⟩ = some (.int .u8 ((ints S.data.toList).getD i 0))) (hs : w.heap.size < W.heap.size) :
    Bs (W.setCell ⟨w.heap.size, k, none⟩ (.int .u8 t)) (some ⟨w.heap.size, 0, none⟩) S.size C ((ints S.data.toList).set k t) := by
  have hl : S.data.toList.length = S.size := rfl
  refine .inr ⟨w.heap.size, 0, rfl, by omega, hC, by rw [List.length_set, ints_len]; rfl, fun z hz => ?_, fun i hi => ?_, by rw [World.size_setCell]; exact hs⟩
  · rcases List.mem_or_eq_of_mem_set hz with h | h
    · exact ints_byt _ z h
    · rw [h]; exact ht
  · rw [Nat.zero_add]
    have hil : i < (ints S.data.toList).length := by rw [ints_len]; omega
    by_cases hik : i = k
    · subst hik
      rw [World.cell?_setCell_same (h := hc i hk)]
      simp [List.getD, List.getElem?_set_self hil]
    · rw [World.cell?_setCell_other (h := fun e => hik (congrArg Addr.off e).symm), hc i hi]
      simp [List.getD, List.getElem?_set_ne (fun e : k = i => hik e.symm)]
theorem strOf_set (l : List UInt8) (k : Nat) (t : Int) : (strOf ((ints l).set k t)).data.toList = l.set k (UInt8.ofNat t.toNat) := by
  unfold strOf ints
  show (List.map _ _) = _
  rw [List.map_set, List.map_map]
  congr 1
  conv => rhs; rw [← List.map_id l]
  apply List.map_congr_left
  intro c _
  simp
/-- '[]byte{c}': one byte, in a new row. -/
theorem one_bs (w : World) (c : Int) (h0 : 0 ≤ c) (h1 : c ≤ 255) : Bs (w.alloc (.cells #[.int .u8 c] 5)) (some ⟨w.heap.size, 0, none⟩) 1 1 [c] := by
  refine .inr ⟨_, 0, rfl, by decide, by decide, rfl, (by intro z hz; simp at hz; omega), fun i hi => ?_, by simp⟩
  have : i = 0 := by omega
  subst this
  have hh : (w.alloc (Obj.cells #[Value.int .u8 c] 5)).heap[w.heap.size]? = some (Obj.cells #[Value.int .u8 c] 5) := by
    show (w.heap.push _)[w.heap.size]? = _
    simp
  unfold World.cell?
  rw [hh]
  rfl
end Go.Proofs.YthofdmepofepgaaDoor
