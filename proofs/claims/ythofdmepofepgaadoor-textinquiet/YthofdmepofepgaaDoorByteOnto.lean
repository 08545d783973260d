/- Bytes that were made of a text, and what is appended to them: a row of one's own, told by its cells, of which none is frozen. Conditions: appends of at most 100000000 bytes. -/
import Derived.Test.YthofdmepofepgaaDoorByteKit
import Derived.Deep.AppendSrc
import Derived.Laws.IdiomCopy
namespace Go.Proofs.YthofdmepofepgaaDoor
open Go.RowKit

/-- A row of bytes in a block that is base or later; all its room is there and none of it is frozen. -/
structure Free (base : Nat) (w : World) (g n c : Nat) (l : List UInt8) : Prop where
  len : l.length = n
  new : base ≤ g
  old : g < w.heap.size
  le : n ≤ c
  max : c ≤ maxLen
  cell : ∀ i, ∀ h : i < l.length, w.cell? ⟨g, i, none⟩ = some (.int .u8 (l[i].toNat : Int))
  room : ∀ i, i < c → (w.cell? ⟨g, i, none⟩).isSome = true ∧ w.frozen? ⟨g, i, none⟩ = false
theorem Free.bu {base : Nat} {w : World} {g n c : Nat} {l : List UInt8} (h : Free base w g n c l) : Bu w (some ⟨g, 0, none⟩) n c l := by
  refine ⟨h.len, ?_, h.le, h.max⟩
  by_cases h0 : n = 0
  · refine .inl ⟨h0, ?_, fun e => by cases e⟩
    have : l = [] := List.eq_nil_of_length_eq_zero (by rw [h.len, h0])
    rw [this]
    rfl
  · refine .inr ⟨g, 0, rfl, by omega, h.le, by rw [ints_len, h.len], ints_byt l, fun i hi => ?_, h.old⟩
    rw [Nat.zero_add, h.cell i (by rw [h.len]; exact hi), getD_ints l i (by rw [h.len]; exact hi)]
theorem Free.grow {base : Nat} {w w' : World} {g n c : Nat} {l : List UInt8} (h : Free base w g n c l) (hg : w.grownBy w' none) : Free base w' g n c l := by
  have e := hg.block g h.old (by simp)
  refine ⟨h.len, h.new, Nat.lt_of_lt_of_le h.old hg.size, h.le, h.max, fun i hi => ?_, fun i hi => ?_⟩
  · rw [World.cell?_of_block (a := ⟨g, i, none⟩) e]; exact h.cell i hi
  · rw [World.cell?_of_block (a := ⟨g, i, none⟩) e, World.frozen?_of_block (a := ⟨g, i, none⟩) e]; exact h.room i hi
/-- '[]byte(s)' -/
theorem free_bytes (S : ByteArray) (hS : S.size ≤ maxLen) (w : World) : ∃ c w', (convert 9 22 (.string S)).run Tryd.prog w = .ok (.slice (some ⟨w.heap.size, 0, none⟩) S.size c) w' ∧ Free w.heap.size w' w.heap.size S.size c S.data.toList ∧ w.grownBy w' none := by
  have hr := run_bytes_of_string (P := Tryd.prog) w 9 22 5 S Tryd.underlying9 Tryd.underlying22 Tryd.underlying5
  have hge := grownCap_ge w S.size 0 5
  have hmx := grownCap_le_maxLen w S.size 0 5 hS
  obtain ⟨C, hC⟩ : ∃ C, C = grownCap w S.size 0 5 := ⟨_, rfl⟩
  rw [← hC] at hr hge hmx
  have hh : (w.drew.alloc (.cells (bytesRow S C) 5 ((bytesRow S C).size, (bytesRow S C).size + 1))).heap[w.heap.size]? = some (.cells (bytesRow S C) 5 ((bytesRow S C).size, (bytesRow S C).size + 1)) := by
    show (w.heap.push _)[w.heap.size]? = _
    simp
  have hsz : (bytesRow S C).size = C := by
    unfold bytesRow
    rw [Array.size_append, Array.size_map, Array.size_replicate]
    have : S.data.size = S.size := rfl
    omega
  refine ⟨C, _, hr, ⟨Array.length_toList, Nat.le_refl _, ?_, hge, hmx, fun i hi => ?_, fun i hi => ⟨?_, ?_⟩⟩, ⟨rfl, rfl, rfl, by simp, fun k hk _ => heap_alloc_old w.drew _ hk⟩⟩
  · show w.heap.size < (w.heap.push _).size
    simp
  · rw [Array.length_toList] at hi
    unfold World.cell?
    rw [hh]
    show (bytesRow S C)[i]? = _
    unfold bytesRow
    rw [Array.getElem?_append_left (by rw [Array.size_map]; exact hi), Array.getElem?_map, Array.getElem?_eq_getElem hi]
    rfl
  · unfold World.cell?
    rw [hh]
    show ((bytesRow S C)[i]?).isSome = true
    rw [Array.getElem?_eq_getElem (by rw [hsz]; exact hi)]
    rfl
  · unfold World.frozen?
    rw [hh]
    show (decide ((bytesRow S C).size ≤ i) && decide (i < (bytesRow S C).size + 1)) = false
    rw [hsz, decide_eq_false (by omega)]
    rfl
theorem setCells_gr (b : Nat) : ∀ (vs : List Value) (o : Nat) (w : World), w.grownBy (w.setCells b o vs) (some b)
  | [], _, w => gr_refl _ _
  | v :: vs, o, w => by
    have h1 : w.grownBy (w.setCell ⟨b, o, none⟩ v) (some b) := ⟨rfl, rfl, rfl, by rw [World.size_setCell]; exact Nat.le_refl _, fun j _ hn => heap_setCell_other _ _ _ _ (fun e => hn (by rw [e]))⟩
    exact gr_trans h1 (setCells_gr b vs (o + 1) (w.setCell ⟨b, o, none⟩ v))
theorem byU_at {l : List UInt8} {i : Nat} (h : i < (byU l).length) : (byU l)[i] = .int .u8 (l[i]'(by rw [← byU_len]; exact h)).toNat := by
  have h2 : i < l.length := by rw [← byU_len]; exact h
  have h1 := byU_get h2
  rw [List.getElem?_eq_getElem h, getD_ints l i h2] at h1
  exact Option.some.inj h1
set_option maxRecDepth 100000 in
/-- Bytes are appended. -/
theorem Free.append {base : Nat} {w : World} {g n c : Nat} {l : List UInt8} (h : Free base w g n c l) {b : Option Addr} {m d : Nat} {k : List UInt8} (hk : Bu w b m d k) (hn : n + m ≤ 100000000) (hb : base ≤ w.heap.size) (ty : TypeId) :
    ∃ g' c' w', (Builtin.append_ #[22, 22] ty #[.slice (some ⟨g, 0, none⟩) n c, .slice b m d]).run Tryd.prog w = .ok (.slice (some ⟨g', 0, none⟩) (n + m) c') w' ∧ Free base w' g' (n + m) c' (l ++ k) ∧ w.grownBy w' (some g) := by
  obtain ⟨i0, hi, hz0, hz1, hz2⟩ := info_parts info_byte
  have hml : maxLen = 9223372036854775807 ∨ 100000000 ≤ maxLen := .inr (by decide)
  have hkl : (byU k).length = m := by rw [byU_len, hk.n]
  have hone : ∀ u ∈ byU k, u.oneCell' = true := fun u hu => by
    unfold byU byV at hu
    obtain ⟨z, _, rfl⟩ := List.mem_map.1 hu
    rfl
  have hs : Src Tryd.prog i0.size 22 (.slice b m d) m (byU k) w := by
    rw [hz1]
    cases b with
    | none =>
      obtain ⟨rfl, h0⟩ : m = 0 ∧ byU k = [] := by
        rcases hk.b with ⟨h1, h2, h3⟩ | ⟨b, off, r⟩
        · exact ⟨h1, List.eq_nil_of_length_eq_zero (by rw [hkl, h1])⟩
        · cases r.at_
      rw [h0]
      exact Src.ofNil w Tryd.underlying22 d
    | some x =>
      refine Src.ofSlice w Tryd.underlying22 x m d (byU k) (by rw [hkl, Nat.mul_one]) (fun j u hu => ?_) hone
      have hj : j < m := by
        have := (List.getElem?_eq_some_iff.1 hu).1
        omega
      rcases hk.b with ⟨h1, _⟩ | ⟨b, off, r⟩
      · omega
      · obtain rfl : x = ⟨b, off, none⟩ := Option.some.inj r.at_
        rw [add_at, r.cell j hj, ← hu, byU_get (by rw [hk.n]; exact hj)]
  have hlk : (l ++ k).length = n + m := by rw [List.length_append, h.len, hk.n]
  by_cases hroom : n + m ≤ c
  · have hr := run_append_room_src (P := Tryd.prog) w 22 22 ty 5 i0 Tryd.underlying22 hi g 0 n c (.slice b m d) m (byU k) hs hroom
      (fun j hj => by rw [hz1, Nat.mul_one, Nat.zero_add]; exact (h.room (n + j) (by omega)).1) (fun j hj => by rw [hz1, Nat.mul_one, Nat.zero_add]; exact (h.room (n + j) (by omega)).2)
    rw [hz1, Nat.mul_one, Nat.zero_add] at hr
    have hg := setCells_gr g (byU k) n w
    refine ⟨g, c, _, hr, ⟨hlk, h.new, Nat.lt_of_lt_of_le h.old hg.size, hroom, h.max, fun i hi2 => ?_, fun i hi2 => ⟨?_, ?_⟩⟩, hg⟩
    · by_cases hil : i < l.length
      · rw [World.cell?_setCells_out g _ _ _ _ (fun _ _ => .inl (by show i < n; rw [← h.len]; exact hil)), h.cell i hil, List.getElem_append_left hil]
      · obtain ⟨j, rfl⟩ : ∃ j, i = n + j := ⟨i - n, by have := h.len; omega⟩
        have hj : j < (byU k).length := by rw [hkl]; omega
        rw [World.cell?_setCells_in g (byU k) n w (fun j hj => (h.room (n + j) (by omega)).1) j hj, byU_at hj]
        rw [List.getElem_append_right (by rw [h.len]; omega)]
        congr 3
        simp [h.len]
    · by_cases hin : n ≤ i ∧ i < n + m
      · obtain ⟨j, rfl⟩ : ∃ j, i = n + j := ⟨i - n, by omega⟩
        rw [World.cell?_setCells_in g (byU k) n w (fun j hj => (h.room (n + j) (by omega)).1) j (by omega)]
        rfl
      · rw [World.cell?_setCells_out g _ _ _ _ (fun _ _ => by show i < n ∨ n + (byU k).length ≤ i; omega)]
        exact (h.room i hi2).1
    · rw [World.frozen?_setCells]
      exact (h.room i hi2).2
  · have hold : (Builtin.firstCells i0.size n (.slice (some ⟨g, 0, none⟩) n c)).run Tryd.prog w.drew = .ok (byU l).toArray w.drew := by
      refine run_firstCells_some w.drew i0.size n ⟨g, 0, none⟩ n c (byU l) (by rw [hz1, Nat.mul_one, byU_len, h.len]) (fun j u hu => ?_)
      have hj : j < l.length := by
        have := (List.getElem?_eq_some_iff.1 hu).1
        rw [byU_len] at this
        exact this
      rw [add_at, Nat.zero_add]
      show w.cell? ⟨g, j, none⟩ = _
      rw [h.cell j hj, ← hu, byU_get hj, getD_ints l j hj]
    have hle := h.le
    have hfit : Builtin.nextslicecap (n + m) c * i0.bytes ≤ 281474976710656 := by
      rw [hz2]
      exact growslice_fits (by omega) (by omega)
    have hr := run_append_grow_src (P := Tryd.prog) w 22 22 ty 5 i0 (.int .u8 0) Tryd.underlying22 hi hz0 (some ⟨g, 0, none⟩) n c (byU l) hold (.slice b m d) m (byU k) hs (by omega) (by omega) hfit
    have hge := grownCap_ge w (n + m) c 5
    have hmx := grownCap_le_maxLen w (n + m) c 5 (by omega)
    obtain ⟨C, hC⟩ : ∃ C, C = grownCap w (n + m) c 5 := ⟨_, rfl⟩
    rw [← hC] at hr hge hmx
    have hcat : byU l ++ byU k = byU (l ++ k) := by unfold byU byV ints; simp
    rw [hcat] at hr
    obtain ⟨cs, hcs⟩ : ∃ cs, cs = (byU (l ++ k)).toArray ++ Builtin.zeroCells (Value.int .u8 0).cells (C - (n + m)) := ⟨_, rfl⟩
    have hsz : cs.size = C := by
      rw [hcs, Array.size_append, List.size_toArray, byU_len, hlk, size_zeroCells]
      show n + m + (C - (n + m)) * 1 = C
      omega
    rw [← hcs] at hr
    have hh : (w.drew.alloc (.cells cs 5)).heap[w.heap.size]? = some (.cells cs 5) := by
      show (w.heap.push _)[w.heap.size]? = _
      simp
    refine ⟨w.heap.size, C, _, hr, ⟨hlk, hb, ?_, hge, hmx, fun i hi2 => ?_, fun i hi2 => ⟨?_, ?_⟩⟩, ⟨rfl, rfl, rfl, by simp, fun k hk _ => heap_alloc_old w.drew _ hk⟩⟩
    · show w.heap.size < (w.heap.push _).size
      simp
    · rw [cell_of_row _ _ _ _ _ _ hh, hcs, Array.getElem?_append_left (by rw [List.size_toArray, byU_len]; exact hi2), List.getElem?_toArray, byU_get hi2, getD_ints _ _ hi2]
    · rw [cell_of_row _ _ _ _ _ _ hh, Array.getElem?_eq_getElem (by rw [hsz]; exact hi2)]
      rfl
    · exact frozen_of_row _ _ _ _ _ hh
theorem wpList_append_free {w : World} {ops : Array Oper} {rest : List Oper} {o : Oper} {a : Act} {Q : Exit → Act → World → Prop} (hgd : o.guard = none) (s x : Operand) (ho : o.op = .call { callee := .builtin .append, args := #[s, x], argTypes := #[22, 22] })
    (base g n c : Nat) (l : List UInt8) (hs : a.eval s = .slice (some ⟨g, 0, none⟩) n c) (hf : Free base w g n c l) (b : Option Addr) (m d : Nat) (k : List UInt8) (hx : a.eval x = .slice b m d) (hk : Bu w b m d k) (hn : n + m ≤ 100000000) (hb : base ≤ w.heap.size)
    (h : ∀ g' c' w', Free base w' g' (n + m) c' (l ++ k) → w.grownBy w' (some g) → wpList Tryd.prog ops Q rest (a.put o.dst (.slice (some ⟨g', 0, none⟩) (n + m) c')) w') :
    wpList Tryd.prog ops Q (o :: rest) a w := by
  refine wpList_plain hgd fun K hK => ?_
  obtain ⟨g', c', w', hr, h2, h3⟩ := hf.append hk hn hb o.type
  unfold Oper.wp execOp
  simp only [ho, resolve, invoke, builtin, Sem.run_bind, Sem.run_pure, Result.andThen_ok, List.map_toArray, List.map_cons, List.map_nil, hs, hx, hr]
  exact hK _ _ (h g' c' w' h2 h3)
end Go.Proofs.YthofdmepofepgaaDoor
