/- Bytes that lie in memory: cut, copied, appended. Conditions: none of the program's variables is read; appends of at most 100000000 bytes. -/
import Derived.Test.YthofdmepofepgaaDoorParts
import Derived.Test.YthofdmepofepgaaDoorG05Joined
import Derived.Laws.AppendOwnNone
import Derived.Laws.Cover3
namespace Go.Proofs.YthofdmepofepgaaDoor
open Go.RowKit

/-- Bytes as cells. -/
def byU (l : List UInt8) : List Value := byV (ints l)
theorem byU_len (l : List UInt8) : (byU l).length = l.length := by unfold byU byV; rw [List.length_map, ints_len]
theorem byU_get {l : List UInt8} {i : Nat} (h : i < l.length) : (byU l)[i]? = some (.int .u8 ((ints l).getD i 0)) := by
  unfold byU byV
  have : i < (ints l).length := by rw [ints_len]; exact h
  rw [List.getElem?_map, List.getElem?_eq_getElem this]
  simp [List.getD, List.getElem?_eq_getElem this]
/-- A value's bytes, in a row of its own. -/
def ValAt (n0 : Nat) (w : World) (a : Option Addr) (c : Nat) (l : List UInt8) : Prop := w.ownsRow n0 5 1 (.slice a l.length c) l.length (byU l)
theorem ValAt.bs {n0 : Nat} {w : World} {a : Option Addr} {c : Nat} {l : List UInt8} (h : ValAt n0 w a c l) : Bs w a l.length c (ints l) := by
  by_cases h0 : l.length = 0
  · refine .inl ⟨h0, ?_, fun ha => ?_⟩
    · rw [List.eq_nil_of_length_eq_zero h0]
      rfl
    · subst ha
      rcases h.2 with ⟨h1, _⟩ | ⟨g, cap, cur, h1, _⟩
      · exact (Value.slice.inj h1).2.2
      · cases h1
  · obtain ⟨g, cap, e⟩ := own_form h (by omega)
    cases e
    have hc := own_cap h
    refine .inr ⟨g, 0, rfl, by omega, hc.1, ints_len l, ints_byt l, fun i hi => ?_, (own_at h rfl).2.1⟩
    have h' : w.ownsRow n0 5 1 (.slice (some ⟨g, 0, none⟩) l.length c) l.length (byU l) := h
    rw [Nat.zero_add, h'.cellAt i (by omega), byU_get hi]
theorem ValAt.base {n0 n1 : Nat} {w : World} {a : Option Addr} {c : Nat} {l : List UInt8} (h : ValAt n0 w a c l) (hn : n1 ≤ n0) : ValAt n1 w a c l := by
  refine ⟨h.1, ?_⟩
  rcases h.2 with h1 | ⟨g, cap, cur, h1, h2, h3⟩
  · exact .inl h1
  · exact .inr ⟨g, cap, cur, h1, Nat.le_trans hn h2, h3⟩
/-- All of them are appended. -/
theorem run_append_bs (w : World) (base : Nat) (ty : TypeId) {v : Value} {n : Nat} {xs : List Value} {a : Option Addr} {len cap : Nat} {l : List UInt8} (hown : w.ownsRow base 5 1 v n xs) (hl : l.length = len) (hr : Bs w a len cap (ints l)) (hn : n + len ≤ 100000000) (hb : base ≤ w.heap.size) :
    ∃ v' w', (Builtin.append_ #[22, 22] ty #[v, .slice a len cap]).run Tryd.prog w = .ok v' w' ∧ w'.ownsRow base 5 1 v' (n + len) (xs ++ byU l) ∧ w.grownBy w' v.ownBlock ∧ (v'.ownBlock = v.ownBlock ∨ v'.ownBlock = some w.heap.size) := by
  obtain ⟨i0, hi, hz0, hz1, hz2⟩ := info_parts info_byte
  cases a with
  | none =>
    obtain ⟨rfl, h0, hc⟩ : len = 0 ∧ ints l = [] ∧ cap = 0 := by
      rcases hr with ⟨h1, h2, h3⟩ | ⟨b, off, r⟩
      · exact ⟨h1, h2, h3 rfl⟩
      · cases r.at_
    subst hc
    refine ⟨v, w, run_append_owned_none w base 22 ty 5 i0 1 Tryd.underlying22 hi v n xs hown, ?_, gr_refl _ _, .inl rfl⟩
    unfold byU
    rw [h0]
    simpa [byV] using hown
  | some x =>
    have hlb : (byU l).length = len * 1 := by rw [byU_len, hl, Nat.mul_one]
    have hnews : ∀ (j : Nat) (u : Value), (byU l)[j]? = some u → w.cell? (x.add j) = some u := by
      intro j u hu
      have hj : j < len := by
        have := (List.getElem?_eq_some_iff.1 hu).1
        rw [byU_len] at this
        omega
      rcases hr with ⟨h1, _⟩ | ⟨b, off, r⟩
      · omega
      · obtain rfl : x = ⟨b, off, none⟩ := Option.some.inj r.at_
        rw [add_at, r.cell j hj, ← hu, byU_get (by omega)]
    obtain ⟨v', w', q1, q2, q3, _, q5⟩ := run_append_own_at (P := Tryd.prog) w base 22 ty 5 i0 (.int .u8 0) 1 1 Tryd.underlying22 hi hz0 hz1 hz2 rfl (by decide) v n xs hown x len cap (byU l) hlb hnews (fun u hu => by
      unfold byU byV at hu
      obtain ⟨z, _, rfl⟩ := List.mem_map.1 hu
      rfl) (by unfold maxLen; omega) (by omega) hb
    exact ⟨v', w', q1, q2, q3, q5⟩
theorem wpList_append_bs {w : World} {ops : Array Oper} {rest : List Oper} {o : Oper} {a : Act} {Q : Exit → Act → World → Prop} (hgd : o.guard = none) (s x : Operand) (ho : o.op = .call { callee := .builtin .append, args := #[s, x], argTypes := #[22, 22] })
    (base : Nat) (v : Value) (n : Nat) (xs : List Value) (hs : a.eval s = v) (hown : w.ownsRow base 5 1 v n xs) (b : Option Addr) (len cap : Nat) (l : List UInt8) (hx : a.eval x = .slice b len cap) (hl : l.length = len) (hr : Bs w b len cap (ints l)) (hn : n + len ≤ 100000000) (hb : base ≤ w.heap.size)
    (h : ∀ v' w', w'.ownsRow base 5 1 v' (n + len) (xs ++ byU l) → w.grownBy w' v.ownBlock → (v'.ownBlock = v.ownBlock ∨ v'.ownBlock = some w.heap.size) → wpList Tryd.prog ops Q rest (a.put o.dst v') w') :
    wpList Tryd.prog ops Q (o :: rest) a w := by
  refine wpList_plain hgd fun K hK => ?_
  obtain ⟨v', w', hr, h2, h3, h5⟩ := run_append_bs w base o.type hown hl hr hn hb
  unfold Oper.wp execOp
  simp only [ho, resolve, invoke, builtin, Sem.run_bind, Sem.run_pure, Result.andThen_ok, List.map_toArray, List.map_cons, List.map_nil, hs, hx, hr]
  exact hK _ _ (h v' w' h2 h3 h5)
theorem Bs.alloc {w : World} {a : Option Addr} {len cap : Nat} {es : List Int} (h : Bs w a len cap es) (o : Obj) : Bs (w.alloc o) a len cap es := h.on (below_gr (World.grownBy_alloc w o none))
theorem owns_empty (w : World) : (w.alloc (.cells #[] 5)).ownsRow w.heap.size 5 1 (.slice (some ⟨w.heap.size, 0, none⟩) 0 0) 0 [] :=
  ⟨rfl, .inr ⟨w.heap.size, 0, #[], rfl, Nat.le_refl _, World.alloc_heap_new w _, Nat.le_refl _, Nat.zero_le _, rfl, rfl⟩⟩
theorem eql_nil (a : Option Addr) (n c : Nat) (w : World) : (binOp .eql 22 (.slice a n c) (.slice none 0 0)).run Tryd.prog w = .ok (.bool a.isNone) w := by
  simp only [binOp]
  simp [run_equal_slice_nil w 22 5 a n c Tryd.underlying22]
/-- Bytes that came in. -/
theorem rowU {w : World} {a : Option Addr} {len cap : Nat} {zs : List Int} (h : IsRow .u8 w a len cap zs) : ∃ u : List UInt8, u.length = len ∧ Bs w a len cap (ints u) ∧ cap ≤ maxLen ∧ len ≤ cap := by
  rcases h with ⟨rfl, rfl, rfl, rfl⟩ | ⟨x, rfl, h2, h3, h4, h5, h6⟩
  · exact ⟨[], rfl, .inl ⟨rfl, rfl, fun _ => rfl⟩, Nat.zero_le _, Nat.le_refl _⟩
  · obtain ⟨u, hu⟩ : ∃ u : List UInt8, zs.take len = ints u := by
      refine ⟨(zs.take len).map fun z => UInt8.ofNat z.toNat, ?_⟩
      unfold ints
      rw [List.map_map]
      conv => lhs; rw [← List.map_id (zs.take len)]
      apply List.map_congr_left
      intro z hz
      have := u8_wf (h6 z (List.mem_of_mem_take hz))
      simp only [Function.comp, UInt8.toNat_ofNat', id]
      omega
    have hul : u.length = len := by rw [← ints_len, ← hu, List.length_take]; omega
    refine ⟨u, hul, ?_, h3, h2⟩
    rw [← hu]
    by_cases h0 : len = 0
    · exact .inl ⟨h0, by rw [h0]; rfl, fun e => by cases e⟩
    · have c0 := h5 0 (by omega)
      have hspot : x.spot = none := by simpa [Addr.add] using World.cell?_spot c0
      obtain ⟨b, off, spot⟩ := x
      simp only at hspot
      subst hspot
      refine .inr ⟨b, off, rfl, by omega, h2, by rw [List.length_take]; omega, fun z hz' => u8_wf (h6 z (List.mem_of_mem_take hz')), fun i hi => ?_, ?_⟩
      · have h1 := h5 i (by omega)
        rw [add_at] at h1
        rw [h1]
        congr 2
        simp [List.getD, hi]
      · rw [add_at] at c0
        exact World.block_lt_of_cell? w _ c0
/-- A row of bytes: where it lies, and that its length is within its room. -/
structure Bu (w : World) (a : Option Addr) (len cap : Nat) (l : List UInt8) : Prop where
  n : l.length = len
  b : Bs w a len cap (ints l)
  c : len ≤ cap
  m : cap ≤ maxLen
theorem Bu.on {w w' : World} {a : Option Addr} {len cap : Nat} {l : List UInt8} (h : Bu w a len cap l) (hb : Below w.heap.size w w') : Bu w' a len cap l := ⟨h.n, h.b.on hb, h.c, h.m⟩
theorem Bu.alloc {w : World} {a : Option Addr} {len cap : Nat} {l : List UInt8} (h : Bu w a len cap l) (o : Obj) : Bu (w.alloc o) a len cap l := ⟨h.n, h.b.alloc o, h.c, h.m⟩
theorem Bu.drew {w : World} {a : Option Addr} {len cap : Nat} {l : List UInt8} (h : Bu w a len cap l) : Bu w.drew a len cap l := h.on (Below.drew (Below.refl _ _))
theorem Bu.of {w : World} {a : Option Addr} {len cap : Nat} {zs : List Int} (h : IsRow .u8 w a len cap zs) : ∃ u : List UInt8, Bu w a len cap u := by
  obtain ⟨u, h1, h2, h3, h4⟩ := rowU h
  exact ⟨u, h1, h2, h4, h3⟩
theorem ValAt.bu {n0 : Nat} {w : World} {a : Option Addr} {c : Nat} {l : List UInt8} (h : ValAt n0 w a c l) : Bu w a l.length c l := ⟨rfl, h.bs, (own_cap h).1, (own_cap h).2⟩
/-- 'b[i:j]' of bytes: the first j, without the first i, whatever room is told; as an equation of every world. -/
theorem getD_cut (l : List UInt8) (i k : Nat) : (ints ((l.drop i))).getD k 0 = (ints l).getD (i + k) 0 := by
  unfold ints
  simp [List.getD, List.getElem?_drop]
theorem getD_take (l : List UInt8) {j k : Nat} (h : k < j) : (ints ((l.take j))).getD k 0 = (ints l).getD k 0 := by
  unfold ints
  simp [List.getD, h]
/-- 'b[:j:j]' -/
theorem Bu.front {w : World} {a : Option Addr} {len cap : Nat} {l : List UInt8} (h : Bu w a len cap l) {j c : Nat} (hj : j ≤ len) (hc : j ≤ c) (hc2 : c ≤ cap) : Bu w a j c (l.take j) := by
  refine ⟨by rw [List.length_take, h.n]; omega, ?_, hc, Nat.le_trans hc2 h.m⟩
  by_cases h0 : j = 0
  · refine .inl ⟨h0, by rw [h0]; rfl, fun ha => ?_⟩
    rcases h.b with ⟨h1, h2, h3⟩ | ⟨b, off, r⟩
    · have := h3 ha; omega
    · rw [ha] at r; cases r.at_
  · rcases h.b with ⟨h1, h2, h3⟩ | ⟨b, off, r⟩
    · omega
    · refine .inr ⟨b, off, r.at_, by omega, hc, by rw [ints_len, List.length_take, h.n]; omega, ints_byt _, fun i hi => ?_, r.old⟩
      rw [r.cell i (by omega), getD_take l hi]
/-- 'b[i:]' -/
theorem Bu.back {w : World} {a : Option Addr} {len cap : Nat} {l : List UInt8} (h : Bu w a len cap l) {i : Nat} (hi : i ≤ len) : ∃ a', (∀ W : World, (Instr.sliceAt 22 (.slice a len cap) (some (.int .i64 (i : Int))) none none).run Tryd.prog W = .ok (.slice a' (len - i) (cap - i)) W) ∧
    ∀ W : World, Bu W a len cap l → Bu W a' (len - i) (cap - i) (l.drop i) := by
  have hc := h.c
  have h1 : (i : Int) ≤ (len : Int) := by omega
  have h0 : ¬ (i : Int) < 0 := by omega
  by_cases e : cap = i
  · refine ⟨a, fun W => ?_, fun W H => ⟨by rw [List.length_drop, H.n], .inl ⟨by omega, by rw [List.drop_eq_nil_of_le (by rw [H.n]; omega)]; rfl, fun _ => by omega⟩, by omega, by have := H.m; omega⟩⟩
    subst e
    cases a <;> go_simp
  · cases a with
    | none =>
      rcases h.b with ⟨_, _, h3⟩ | ⟨b, off, r⟩
      · have := h3 rfl; omega
      · cases r.at_
    | some x =>
      refine ⟨some (x.add i), fun W => ?_, fun W H => ⟨by rw [List.length_drop, H.n], ?_, by omega, by have := H.m; omega⟩⟩
      · go_simp
      · by_cases hz : len - i = 0
        · exact .inl ⟨hz, by rw [List.drop_eq_nil_of_le (by rw [H.n]; omega)]; rfl, fun e => by cases e⟩
        · rcases H.b with ⟨h4, _, _⟩ | ⟨b, off, r⟩
          · omega
          · obtain rfl : x = ⟨b, off, none⟩ := Option.some.inj r.at_
            refine .inr ⟨b, off + i, by rw [add_at], by omega, by omega, by rw [ints_len, List.length_drop, H.n], ints_byt _, fun k hk => ?_, r.old⟩
            rw [Nat.add_assoc, r.cell (i + k) (by omega), getD_cut]
/-- 'b[i:j:j]' -/
theorem Bu.mid {w : World} {a : Option Addr} {len cap : Nat} {l : List UInt8} (h : Bu w a len cap l) {i j m : Nat} (hm : i + m = j) (h0 : 1 ≤ m) (hj : j ≤ len) (zj : Int) (hz : zj = (j : Int)) : ∃ a', (∀ W : World, (Instr.sliceAt 22 (.slice a len cap) (some (.int .i64 (i : Int))) (some (.int .i64 zj)) (some (.int .i64 zj))).run Tryd.prog W = .ok (.slice a' m m) W) ∧
    Bu w a' m m ((l.drop i).take m) := by
  have hc := h.c
  rcases h.b with ⟨h4, _, _⟩ | ⟨b, off, r⟩
  · omega
  · refine ⟨some ⟨b, off + i, none⟩, fun W => ?_, by rw [List.length_take, List.length_drop, h.n]; omega, .inr ⟨b, off + i, rfl, h0, Nat.le_refl _, by rw [ints_len, List.length_take, List.length_drop, h.n]; omega, ints_byt _, fun k hk => ?_, r.old⟩, Nat.le_refl _, by have := h.m; omega⟩
    · have e := r.at_
      subst e hz
      have h1 : (j : Int) ≤ (cap : Int) := by omega
      have h2 : (i : Int) ≤ (j : Int) := by omega
      have h3 : ¬ j = i := by omega
      have h4 : j - i = m := by omega
      go_simp
    · rw [Nat.add_assoc, r.cell (i + k) (by omega), getD_take _ hk, getD_cut]
/-- One byte of a row. -/
theorem Bu.cell {w : World} {a : Option Addr} {len cap : Nat} {l : List UInt8} (h : Bu w a len cap l) (h1 : 1 ≤ len) : ∃ b off, a = some ⟨b, off, none⟩ ∧ ∀ i, ∀ hi : i < l.length, w.cell? ⟨b, off + i, none⟩ = some (.int .u8 (l[i].toNat : Int)) := by
  rcases h.b with ⟨h4, _, _⟩ | ⟨b, off, r⟩
  · omega
  · refine ⟨b, off, r.at_, fun i hi => ?_⟩
    rw [r.cell i (by rw [← h.n]; exact hi), getD_ints l i hi]
end Go.Proofs.YthofdmepofepgaaDoor
