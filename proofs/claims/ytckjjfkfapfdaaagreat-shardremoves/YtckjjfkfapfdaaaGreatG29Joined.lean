/- Rows of entries, each a text and a number, and rows of such rows, in memory. Conditions: none. What package table does in one bucket: where a text stands. Conditions: at most 100000 entries. What package table does in one bucket: get and put. Conditions: at most 100000 entries. -/
import Derived.Test.YtckjjfkfapfdaaaGreatG10Joined
import Derived.Test.YtckjjfkfapfdaaaGreatG28Joined
import Derived.Test.YtckjjfkfapfdaaaGreatG01Joined
import Derived.Lib.AppendZeros
import Derived.WalkKit
namespace Go.Proofs.YtckjjfkfapfdaaaGreat
open Go.RowKit

theorem info_entry : (Tryz.prog.info? 171).map (fun i => (i.zero, i.size, i.bytes)) = some (some (.agg #[.string ⟨#[]⟩, .pointer none]), 2, 24) := by kernel_rfl
theorem info_bucket : (Tryz.prog.info? 168).map (fun i => (i.zero, i.size, i.bytes)) = some (some (.slice none 0 0), 1, 24) := by kernel_rfl
/-- Entries as cells. -/
def enV (xs : List Kv) : List Value := xs.flatMap fun p => [.string p.1, .pointer (some ⟨Int.toNat p.2, 0, none⟩)]
theorem enV_app (xs ys : List Kv) : enV (xs ++ ys) = enV xs ++ enV ys := by simp [enV]
theorem enV_one (p : Kv) : enV [p] = [.string p.1, .pointer (some ⟨Int.toNat p.2, 0, none⟩)] := by simp [enV]
theorem enV_len (xs : List Kv) : (enV xs).length = xs.length * 2 := by
  induction xs with
  | nil => rfl
  | cons p l ih =>
    show (enV l).length + 1 + 1 = _
    rw [ih, List.length_cons]
    omega
theorem enV_at : ∀ {xs : List Kv} {i : Nat} {p : Kv}, xs[i]? = some p → (enV xs)[i * 2]? = some (.string p.1) ∧ (enV xs)[i * 2 + 1]? = some (.pointer (some ⟨Int.toNat p.2, 0, none⟩))
  | [], i, p, h => by simp at h
  | a :: l, 0, p, h => by
    simp at h
    subst h
    exact ⟨rfl, rfl⟩
  | a :: l, i + 1, p, h => by
    have h : l[i]? = some p := by simpa using h
    have := enV_at h
    have e1 : (i + 1) * 2 = i * 2 + 2 := by omega
    rw [e1]
    exact this
theorem enV_cell (l : List Kv) : ∀ u ∈ enV l, u.oneCell' = true := by
  intro u hu
  unfold enV at hu
  rw [List.mem_flatMap] at hu
  obtain ⟨p, _, hu⟩ := hu
  simp at hu
  rcases hu with rfl | rfl <;> rfl
theorem enV_take (l : List Kv) (k : Nat) : (enV l).take (k * 2) = enV (l.take k) := by
  by_cases h : k ≤ l.length
  · have e : l = l.take k ++ l.drop k := (List.take_append_drop k l).symm
    have h2 : (enV (l.take k)).length = k * 2 := by rw [enV_len, List.length_take, Nat.min_eq_left h]
    rw (occs := [1]) [e]
    rw [enV_app, ← h2, List.take_left']
    rfl
  · rw [List.take_of_length_le (l := l) (by omega), List.take_of_length_le (l := enV l) (by rw [enV_len]; omega)]
theorem enV_drop (l : List Kv) (k : Nat) (h : k ≤ l.length) : (enV l).drop (k * 2) = enV (l.drop k) := by
  have e : l = l.take k ++ l.drop k := (List.take_append_drop k l).symm
  have h2 : (enV (l.take k)).length = k * 2 := by rw [enV_len, List.length_take, Nat.min_eq_left h]
  rw (occs := [1]) [e]
  rw [enV_app, ← h2, List.drop_left']
  rfl
abbrev rowE (w : World) (v : Value) (l : List Kv) : Prop := w.ownsRow 0 171 2 v l.length (enV l)
/-- A bucket. -/
abbrev enP (v : Value) (l : List Kv) : Part := rowP 0 171 2 v l.length (enV l)
/-- The entry at a place of a row. -/
theorem entry_at {w : World} {n cap : Nat} {pa : Option Addr} {l : List Kv} (h : w.ownsRow 0 171 2 (.slice pa n cap) n (enV l)) {i : Nat} {p : Kv} (hi : l[i]? = some p) : ∃ g, pa = some ⟨g, 0, none⟩ ∧ w.cell? ⟨g, i * 2, none⟩ = some (.string p.1) ∧ w.cell? ⟨g, i * 2 + 1, none⟩ = some (.pointer (some ⟨Int.toNat p.2, 0, none⟩)) := by
  have hl := (List.getElem?_eq_some_iff.1 hi).1
  have hn : l.length * 2 = n * 2 := (enV_len l).symm.trans h.1
  obtain ⟨g, cap', e⟩ := own_form h (by omega)
  cases e
  obtain ⟨k1, k2⟩ := enV_at hi
  exact ⟨g, rfl, (h.cellAt _ (by omega)).trans k1, (h.cellAt _ (by omega)).trans k2⟩
/-- A row's first elements. -/
theorem row_take {w : World} {e : TypeId} {size g n cap k : Nat} {xs : List Value} (h : w.ownsRow 0 e size (.slice (some ⟨g, 0, none⟩) n cap) n xs) (hk : k ≤ n) : w.ownsRow 0 e size (.slice (some ⟨g, 0, none⟩) k cap) k (xs.take (k * size)) := by
  have hle : k * size ≤ n * size := Nat.mul_le_mul_right _ hk
  refine ⟨by rw [List.length_take, h.1]; omega, ?_⟩
  rcases h.2 with ⟨h', _⟩ | ⟨g', cap', cur, h', hb, hg, hnc, hcm, hcs, htake⟩
  · simp at h'
  · simp only [Value.slice.injEq, Option.some.injEq, Addr.mk.injEq, and_true, true_and] at h'
    obtain ⟨rfl, rfl⟩ := h'
    exact .inr ⟨g, cap, cur, rfl, hb, hg, Nat.le_trans hk hnc, hcm, hcs, by rw [← htake, List.take_take, Nat.min_eq_left hle]⟩
/-- A store behind a row's elements, within its room. -/
theorem row_behind {w : World} {e : TypeId} {size g n cap j : Nat} {xs : List Value} {u : Value} (h : w.ownsRow 0 e size (.slice (some ⟨g, 0, none⟩) n cap) n xs) (hj : n * size ≤ j) : (w.setCell ⟨g, j, none⟩ u).ownsRow 0 e size (.slice (some ⟨g, 0, none⟩) n cap) n xs := by
  have := (h.stored j u).1
  rwa [List.set_eq_of_length_le (by rw [h.1]; exact hj)] at this
/-- Slices of a row of them: which they are. -/
def refs (n : Nat) (f : Nat → Value) : List Value := (List.range n).map f
theorem refs_len (n : Nat) (f : Nat → Value) : (refs n f).length = n := by simp [refs]
theorem refs_at {n i : Nat} (f : Nat → Value) (h : i < n) : (refs n f)[i]? = some (f i) := by simp [refs, h]
theorem refs_set {n i : Nat} (f : Nat → Value) (u : Value) : (refs n f).set i u = refs n (updF f i u) := by
  apply List.ext_getElem?
  intro j
  rw [List.getElem?_set]
  by_cases hj : j < n
  · rw [refs_at _ hj, refs_at _ hj, refs_len]
    by_cases e : i = j
    · subst e
      rw [if_pos rfl, if_pos hj, updF_same]
    · rw [if_neg e, updF_other _ _ (Ne.symm e)]
  · have h1 : (refs n f)[j]? = none := List.getElem?_eq_none (by rw [refs_len]; omega)
    have h2 : (refs n (updF f i u))[j]? = none := List.getElem?_eq_none (by rw [refs_len]; omega)
    rw [h1, h2, refs_len]
    split
    · rw [if_neg (by omega)]
    · rfl
theorem refs_take (n k : Nat) (f : Nat → Value) (h : k ≤ n) : (refs n f).take k = refs k f := by
  unfold refs
  rw [← List.map_take, List.take_range, Nat.min_eq_left h]
/-- A row of buckets. -/
abbrev arP (v : Value) (n : Nat) (f : Nat → Value) : Part := rowP 0 168 1 v n (refs n f)
theorem ar_cell {w : World} {g n cap i : Nat} {f : Nat → Value} (h : (arP (.slice (some ⟨g, 0, none⟩) n cap) n f).q w) (hi : i < n) : w.cell? ⟨g, i, none⟩ = some (f i) ∧ w.frozen? ⟨g, i, none⟩ = false :=
  ⟨(World.ownsRow.cellAt h i (by omega)).trans (refs_at f hi), World.ownsRow.frozenAt h i⟩
/-- A cell of a row of buckets is stored. -/
theorem LawF.arSet {F : Nat → Prop} {w0 w : World} {R : Part} {g n cap i : Nat} {f : Nat → Value} (H : LawF F w0 w ((arP (.slice (some ⟨g, 0, none⟩) n cap) n f).and R)) (u : Value) : LawF F w0 (w.setCell ⟨g, i, none⟩ u) ((arP (.slice (some ⟨g, 0, none⟩) n cap) n (updF f i u)).and R) := by
  obtain ⟨h1, h2⟩ := World.ownsRow.stored H.q.1 i u
  rw [refs_set] at h1
  exact H.app0 h1 h2 (.inl rfl)
/-- All of a row of entries is appended to one. -/
theorem run_append_en (w : World) (base : Nat) (ty : TypeId) {v x : Value} {n : Nat} {xs : List Value} {ys : List Kv} (hown : w.ownsRow base 171 2 v n xs) (hx : rowE w x ys) (hn : n + ys.length ≤ 100000) (hb : base ≤ w.heap.size) :
    ∃ v' w', (Builtin.append_ #[168, 168] ty #[v, x]).run Tryz.prog w = .ok v' w' ∧ w'.ownsRow base 171 2 v' (n + ys.length) (xs ++ enV ys) ∧ w.grownBy w' v.ownBlock ∧ (v'.ownBlock = v.ownBlock ∨ v'.ownBlock = some w.heap.size) := by
  obtain ⟨i0, hi, hz0, hz1, hz2⟩ := info_parts info_entry
  rcases hx.2 with ⟨rfl, h0⟩ | ⟨g, cap, cur, rfl, _⟩
  · have hy : ys = [] := List.length_eq_zero_iff.1 h0
    subst hy
    refine ⟨v, w, run_append_owned_none w base 168 ty 171 i0 2 Tryz.underlying168 hi v n xs hown, ?_, gr_refl _ _, .inl rfl⟩
    simpa [enV] using hown
  · obtain ⟨v', w', h1, h2, h3, _, h5⟩ := run_append_own_at (P := Tryz.prog) w base 168 ty 171 i0 (.agg #[.string ⟨#[]⟩, .pointer none]) 2 24 Tryz.underlying168 hi hz0 hz1 hz2 rfl (by decide) v n xs hown ⟨g, 0, none⟩ ys.length cap (enV ys) (enV_len ys) (hx.cells rfl) (enV_cell ys) (by unfold maxLen; omega) (by omega) hb
    exact ⟨v', w', h1, h2, h3, h5⟩
end Go.Proofs.YtckjjfkfapfdaaaGreat

namespace Go.Proofs.YtckjjfkfapfdaaaGreat
open Go.RowKit

theorem strB_ne {x y : ByteArray} (h : x ≠ y) : (x.toList == y.toList) = false := beq_eq_false_iff_ne.2 fun e => h (by
  rw [ByteArray.toList_eq, ByteArray.toList_eq] at e
  exact ByteArray.ext (Array.toList_inj.1 e))
theorem cell_grown0 {w w' : World} {k i : Nat} {v : Value} (hg : w.grownBy w' none) (h : w.cell? ⟨k, i, none⟩ = some v) : w'.cell? ⟨k, i, none⟩ = some v := by
  by_cases hk : k < w.heap.size
  · have e := hg.block k hk (by simp)
    unfold World.cell? at h ⊢
    rw [e]
    exact h
  · unfold World.cell? at h
    rw [Array.getElem?_eq_none (Nat.le_of_not_lt hk)] at h
    cases h
set_option maxHeartbeats 1000000 in
theorem alike_yes (k : ByteArray) (x : Int) (bx : Nat) (W : World) (hc : W.cell? ⟨bx, 0, none⟩ = some (.string k)) : Calls Tryz.prog 140 #[.agg #[.string k, .pointer (some ⟨Int.toNat x, 0, none⟩)], .pointer (some ⟨bx, 0, none⟩)] W fun e w' => e = .returned (.bool true) ∧ W.grownBy w' none := by
  have hg := World.grownBy_alloc W (.cells #[.string k, .pointer (some ⟨Int.toNat x, 0, none⟩)] 171) none
  have hc2 := cell_grown0 hg hc
  go_enter Tryz.func140, Tryz.ntmps140
  go_wp2
  go_ret
  exact ⟨rfl, hg⟩
set_option maxHeartbeats 1000000 in
theorem alike_no (a k : ByteArray) (x : Int) (hne : a ≠ k) (bx : Nat) (W : World) (hc : W.cell? ⟨bx, 0, none⟩ = some (.string k)) : Calls Tryz.prog 140 #[.agg #[.string a, .pointer (some ⟨Int.toNat x, 0, none⟩)], .pointer (some ⟨bx, 0, none⟩)] W fun e w' => e = .returned (.bool false) ∧ W.grownBy w' none := by
  have hg := World.grownBy_alloc W (.cells #[.string a, .pointer (some ⟨Int.toNat x, 0, none⟩)] 171) none
  have hc2 := cell_grown0 hg hc
  have hs := strB_ne hne
  go_enter Tryz.func140, Tryz.ntmps140
  go_wp2
  go_ret
  exact ⟨rfl, hg⟩
theorem row_grown {w w' : World} {e : TypeId} {size n : Nat} {v : Value} {xs : List Value} (h : w.ownsRow 0 e size v n xs) (hg : w.grownBy w' none) : w'.ownsRow 0 e size v n xs := own_same h fun k hk => hg.block k (own_at h hk).2.1 (by simp)
set_option maxRecDepth 100000 in
set_option maxHeartbeats 2000000 in
theorem idx_hit {w : World} {v : Value} {pre post : List Kv} {k : ByteArray} {x : Int} (hv : rowE w v (pre ++ (k, x) :: post)) (hn : (pre ++ (k, x) :: post).length ≤ 100000) (hpre : ∀ p ∈ pre, p.1 ≠ k) (bx : Nat) (hb : w.cell? ⟨bx, 0, none⟩ = some (.string k)) :
    Calls Tryz.prog 139 #[v, .func (.func 140) #[] #[.pointer (some ⟨bx, 0, none⟩)]] w fun e w' => e = .returned (.int .i64 (pre.length : Nat)) ∧ w.grownBy w' none := by
  obtain ⟨pa, cap, rfl⟩ := own_shape hv
  obtain ⟨n, hln⟩ : ∃ n, (pre ++ (k, x) :: post).length = n := ⟨_, rfl⟩
  obtain ⟨m, hlm⟩ : ∃ m, pre.length = m := ⟨_, rfl⟩
  have hmn : m < n := by rw [← hln, ← hlm, List.length_append, List.length_cons]; omega
  unfold rowE at hv
  rw [hln] at hn hv ⊢
  rw [hlm]
  have HV : Hid (w.ownsRow 0 171 2 (.slice pa n cap) n (enV (pre ++ (k, x) :: post))) := hv
  have hN := hide hln
  have hM := hide hlm
  clear hv hln hlm
  go_enter Tryz.func139, Tryz.ntmps139
  go_wp2
  go_loopw [5, 8] (fun _ i wr => ∃ j : Nat, j ≤ m ∧ i = .int .i64 j ∧ Hid (w.grownBy wr none)) (fun _ i _ => n - (intOf i).toNat)
  case atStart => exact ⟨0, Nat.zero_le _, rfl, gr_refl _ _⟩
  case round =>
    obtain ⟨j, hj, rfl, HG⟩ := hrel
    have hji : (j : Int) < (n : Int) := by omega
    have hbw := cell_grown0 HG.out hb
    by_cases hlt : j < m
    · have hp : (pre ++ (k, x) :: post)[j]? = some (pre[j]'(by rw [hM.out]; exact hlt)) := by rw [List.getElem?_append_left (by rw [hM.out]; exact hlt)]; exact List.getElem?_eq_getElem _
      have hne := hpre _ (List.getElem_mem (by rw [hM.out]; exact hlt))
      obtain ⟨g, rfl, c1, c2⟩ := entry_at (row_grown HV.out HG.out) hp
      generalize pre[j]'(by rw [hM.out]; exact hlt) = p at *
      obtain ⟨a, y⟩ := p
      have HA := hide (fun W (h : W.cell? ⟨bx, 0, none⟩ = some (.string k)) => alike_no a k y hne bx W h)
      clear hp hne
      go_wp2_with (go_at_call 140; refine (HA.out _ hbw).mono ?_; rintro e w1 ⟨rfl, hg1⟩)
      go_roundw
      case rel => exact ⟨j + 1, hlt, by go_num, hide (gr_trans HG.out hg1)⟩
      case measure => simp [intOf]; omega
    · obtain rfl : j = m := by omega
      have hp : (pre ++ (k, x) :: post)[j]? = some (k, x) := by rw [List.getElem?_append_right (by rw [hM.out]; exact Nat.le_refl _), hM.out]; simp
      obtain ⟨g, rfl, c1, c2⟩ := entry_at (row_grown HV.out HG.out) hp
      have HA := hide (fun W (h : W.cell? ⟨bx, 0, none⟩ = some (.string k)) => alike_yes k x bx W h)
      clear hp hlt
      go_wp2_with (go_at_call 140; refine (HA.out _ hbw).mono ?_; rintro e w1 ⟨rfl, hg1⟩)
      go_ret
      exact ⟨rfl, gr_trans HG.out hg1⟩
set_option maxRecDepth 100000 in
set_option maxHeartbeats 2000000 in
theorem idx_miss {w : World} {v : Value} {l : List Kv} {k : ByteArray} (hv : rowE w v l) (hn : l.length ≤ 100000) (hpre : ∀ p ∈ l, p.1 ≠ k) (bx : Nat) (hb : w.cell? ⟨bx, 0, none⟩ = some (.string k)) :
    Calls Tryz.prog 139 #[v, .func (.func 140) #[] #[.pointer (some ⟨bx, 0, none⟩)]] w fun e w' => e = .returned (.int .i64 (-1)) ∧ w.grownBy w' none := by
  obtain ⟨pa, cap, rfl⟩ := own_shape hv
  obtain ⟨n, hln⟩ : ∃ n, l.length = n := ⟨_, rfl⟩
  unfold rowE at hv
  rw [hln] at hn hv ⊢
  have HV : Hid (w.ownsRow 0 171 2 (.slice pa n cap) n (enV l)) := hv
  have hN := hide hln
  clear hv hln
  go_enter Tryz.func139, Tryz.ntmps139
  go_wp2
  go_loopw [5, 8] (fun _ i wr => ∃ j : Nat, j ≤ n ∧ i = .int .i64 j ∧ Hid (w.grownBy wr none)) (fun _ i _ => n - (intOf i).toNat)
  case atStart => exact ⟨0, Nat.zero_le _, rfl, gr_refl _ _⟩
  case round =>
    obtain ⟨j, hj, rfl, HG⟩ := hrel
    have hbw := cell_grown0 HG.out hb
    by_cases hlt : j < n
    · have hji : (j : Int) < (n : Int) := by omega
      have hp : l[j]? = some (l[j]'(by rw [hN.out]; exact hlt)) := List.getElem?_eq_getElem _
      have hne := hpre _ (List.getElem_mem (by rw [hN.out]; exact hlt))
      obtain ⟨g, rfl, c1, c2⟩ := entry_at (row_grown HV.out HG.out) hp
      generalize l[j]'(by rw [hN.out]; exact hlt) = p at *
      obtain ⟨a, y⟩ := p
      have HA := hide (fun W (h : W.cell? ⟨bx, 0, none⟩ = some (.string k)) => alike_no a k y hne bx W h)
      clear hp hne
      go_wp2_with (go_at_call 140; refine (HA.out _ hbw).mono ?_; rintro e w1 ⟨rfl, hg1⟩)
      go_roundw
      case rel => exact ⟨j + 1, hlt, by go_num, hide (gr_trans HG.out hg1)⟩
      case measure => simp [intOf]; omega
    · have hji : ¬ (j : Int) < (n : Int) := by omega
      clear hlt
      go_wp2
      go_ret
      exact ⟨rfl, HG.out⟩
set_option maxRecDepth 100000 in
set_option maxHeartbeats 1000000 in
theorem find_hit {w : World} {v : Value} {pre post : List Kv} {k : ByteArray} {x : Int} (hv : rowE w v (pre ++ (k, x) :: post)) (hn : (pre ++ (k, x) :: post).length ≤ 100000) (hpre : ∀ p ∈ pre, p.1 ≠ k) (g i : Nat) (hc : w.cell? ⟨g, i, none⟩ = some v) :
    Calls Tryz.prog 121 #[.pointer (some ⟨g, i, none⟩), .string k] w fun e w' => e = .returned (.int .i64 (pre.length : Nat)) ∧ w.grownBy w' none := by
  have hg := World.grownBy_alloc w (.cells #[.string k] 9) none
  have hc2 := cell_grown0 hg hc
  have HA := hide (idx_hit (row_grown hv hg) hn hpre w.heap.size (by simp))
  obtain ⟨pa, cap, rfl⟩ := own_shape hv
  clear hv hn hpre
  generalize (pre ++ (k, x) :: post).length = n at *
  go_enter Tryz.func121, Tryz.ntmps121
  go_wp2_with (go_at_call 139; refine HA.out.mono ?_; rintro e w1 ⟨rfl, hg1⟩)
  go_ret
  exact ⟨rfl, gr_trans hg hg1⟩
set_option maxRecDepth 100000 in
set_option maxHeartbeats 1000000 in
theorem find_miss {w : World} {v : Value} {l : List Kv} {k : ByteArray} (hv : rowE w v l) (hn : l.length ≤ 100000) (hpre : ∀ p ∈ l, p.1 ≠ k) (g i : Nat) (hc : w.cell? ⟨g, i, none⟩ = some v) :
    Calls Tryz.prog 121 #[.pointer (some ⟨g, i, none⟩), .string k] w fun e w' => e = .returned (.int .i64 (-1)) ∧ w.grownBy w' none := by
  have hg := World.grownBy_alloc w (.cells #[.string k] 9) none
  have hc2 := cell_grown0 hg hc
  have HA := hide (idx_miss (row_grown hv hg) hn hpre w.heap.size (by simp))
  obtain ⟨pa, cap, rfl⟩ := own_shape hv
  clear hv hn
  go_enter Tryz.func121, Tryz.ntmps121
  go_wp2_with (go_at_call 139; refine HA.out.mono ?_; rintro e w1 ⟨rfl, hg1⟩)
  go_ret
  exact ⟨rfl, gr_trans hg hg1⟩
end Go.Proofs.YtckjjfkfapfdaaaGreat

namespace Go.Proofs.YtckjjfkfapfdaaaGreat
open Go.RowKit

theorem getL_hit {k : ByteArray} {x : Int} {pre post : List Kv} (h : ∀ p ∈ pre, p.1 ≠ k) : getL k (pre ++ (k, x) :: post) = some x := by
  unfold getL
  rw [List.find?_append, List.find?_eq_none.2 fun p hp => by simpa using h p hp]
  simp
theorem at_mid (pre : List Kv) (p : Kv) (post : List Kv) : (pre ++ p :: post)[pre.length]? = some p := by simp
set_option maxRecDepth 100000 in
set_option maxHeartbeats 2000000 in
theorem bget_any {w : World} {v : Value} {l : List Kv} (hv : rowE w v l) (hn : l.length ≤ 100000) (k : ByteArray) (g i : Nat) (hc : w.cell? ⟨g, i, none⟩ = some v) :
    Calls Tryz.prog 90 #[.pointer (some ⟨g, i, none⟩), .string k] w fun e w' => e = .returned (.tuple #[ptrO (getL k l), .bool (bhas k l)]) ∧ w.grownBy w' none := by
  rcases b_cases k l with ⟨pre, x, post, rfl, hpre⟩ | hno
  · have HF := hide (find_hit hv hn hpre g i hc)
    have HR : Hid (Value.tuple #[ptrO (getL k (pre ++ (k, x) :: post)), .bool (bhas k (pre ++ (k, x) :: post))] = .tuple #[.pointer (some ⟨Int.toNat x, 0, none⟩), .bool true]) := by
      show _ = _
      rw [getL_hit hpre, bhas_hit]
      rfl
    rw [HR.out]
    have hmid := at_mid pre (k, x) post
    have hmn : pre.length < (pre ++ (k, x) :: post).length := by simp
    have HV := hide hv
    obtain ⟨pa, cap, rfl⟩ := own_shape hv
    unfold rowE at HV
    clear hv hpre HR
    generalize pre ++ (k, x) :: post = l at *
    generalize pre.length = m at *
    generalize l.length = n at *
    have hmi : (m : Int) < (n : Int) := by omega
    have hm0 : ¬ (m : Int) < 0 := by omega
    go_enter Tryz.func90, Tryz.ntmps90
    go_wp2_with (go_at_call 121; refine HF.out.mono ?_; rintro e w1 ⟨rfl, hg1⟩; have hc1 := cell_grown0 hg1 hc; obtain ⟨ga, rfl, d1, d2⟩ := entry_at (row_grown HV.out hg1) hmid)
    go_ret2
    exact ⟨rfl, hg1⟩
  · have HF := hide (find_miss hv hn hno g i hc)
    have HR : Hid (Value.tuple #[ptrO (getL k l), .bool (bhas k l)] = .tuple #[.pointer none, .bool false]) := by
      show _ = _
      rw [get_none hno, bhas_miss hno]
      rfl
    rw [HR.out]
    clear hv hno HR
    go_enter Tryz.func90, Tryz.ntmps90
    go_wp2_with (go_at_call 121; refine HF.out.mono ?_; rintro e w1 ⟨rfl, hg1⟩)
    go_ret2
    exact ⟨rfl, hg1⟩
theorem enV_set (pre : List Kv) (k : ByteArray) (x y : Int) (post : List Kv) : (enV (pre ++ (k, x) :: post)).set (pre.length * 2 + 1) (.pointer (some ⟨Int.toNat y, 0, none⟩)) = enV (pre ++ (k, y) :: post) := by
  have e : ∀ z : Int, enV (pre ++ (k, z) :: post) = enV pre ++ (.string k :: .pointer (some ⟨Int.toNat z, 0, none⟩) :: enV post) := fun z => by rw [enV_app]; rfl
  rw [e, e, List.set_append_right _ _ (by rw [enV_len]; omega), enV_len, show pre.length * 2 + 1 - pre.length * 2 = 1 by omega]
  rfl
section
variable {F : Nat → Prop} {w0 w w' w1 : World} {R : Part} {g n cap i : Nat} {f : Nat → Value} {l : List Kv}
/-- A bucket of a row of buckets is stored anew. -/
theorem LawF.bkSet {B : Part} (H : LawF F w0 w ((arP (.slice (some ⟨g, 0, none⟩) n cap) n f).and (B.and R))) (u : Value) : LawF F w0 (w.setCell ⟨g, i, none⟩ u) ((arP (.slice (some ⟨g, 0, none⟩) n cap) n (updF f i u)).and (B.and R)) := H.arSet u
end
set_option maxRecDepth 100000 in
set_option maxHeartbeats 2000000 in
theorem bput_any {F : Nat → Prop} {w0 w : World} {R : Part} {g n cap i : Nat} {f : Nat → Value} {l : List Kv} (H : LawF F w0 w ((arP (.slice (some ⟨g, 0, none⟩) n cap) n f).and ((enP (f i) l).and R))) (hi : i < n) (hn : l.length ≤ 50000) (k : ByteArray) (y : Int) :
    Calls Tryz.prog 117 #[.pointer (some ⟨g, i, none⟩), .string k, .pointer (some ⟨Int.toNat y, 0, none⟩)] w fun e w' => e = .returned (.bool (!bhas k l)) ∧ ∃ u, LawF F w0 w' ((arP (.slice (some ⟨g, 0, none⟩) n cap) n (updF f i u)).and ((enP u (bput k y l)).and R)) := by
  obtain ⟨hc, -⟩ := ar_cell H.q.1 hi
  have hv : rowE w (f i) l := H.q.2.1.1
  rcases b_cases k l with ⟨pre, x, post, rfl, hpre⟩ | hno
  · have HF := hide (find_hit hv (by omega) hpre g i hc)
    rw [bhas_hit, bput_hit hpre]
    have hmid := at_mid pre (k, x) post
    have hmn : pre.length < (pre ++ (k, x) :: post).length := by simp
    have HS := hide (enV_set pre k x y post)
    have HL : Hid ((pre ++ (k, x) :: post).length = (pre ++ (k, y) :: post).length) := by show _ = _; simp
    have HV := hide hv
    obtain ⟨v, hfv⟩ : ∃ v, f i = v := ⟨_, rfl⟩
    rw [hfv] at hv hc HV H
    have HU : Hid (updF f i v = f) := by show _ = _; rw [← hfv]; exact updF_self f i
    obtain ⟨pa, c2, rfl⟩ := own_shape hv
    unfold enP at H
    have HH := hide H
    unfold rowE at HV
    clear hv hpre hfv H hn
    generalize pre ++ (k, x) :: post = l at *
    generalize pre ++ (k, y) :: post = l' at *
    generalize pre.length = m at *
    obtain ⟨q, hq⟩ : ∃ q, l.length = q := ⟨_, rfl⟩
    rw [hq] at HH hc HU
    rw [hq] at hmn HV HL
    have hmi : (m : Int) < (q : Int) := by omega
    have hm0 : ¬ (m : Int) < 0 := by omega
    go_enter Tryz.func117, Tryz.ntmps117
    go_wp2_with (go_at_call 121; refine HF.out.mono ?_; rintro e w1 ⟨rfl, hg1⟩; have hc1 := cell_grown0 hg1 hc; obtain ⟨ga, rfl, d1, d2⟩ := entry_at (row_grown HV.out hg1) hmid; have hfz := World.ownsRow.frozenAt (row_grown HV.out hg1) (m * 2 + 1))
    go_ret
    refine ⟨rfl, .slice (some ⟨ga, 0, none⟩) q c2, ?_⟩
    have H1 := HH.out.step hg1
    obtain ⟨h1, h2⟩ := World.ownsRow.stored (row_grown HV.out hg1) (m * 2 + 1) (.pointer (some ⟨Int.toNat y, 0, none⟩))
    rw [HS.out] at h1
    have H2 := (H1.rot.app0 (v' := .slice (some ⟨ga, 0, none⟩) q c2) (m := q) h1 h2 (.inl rfl)).rot
    unfold enP
    rw [HU.out, ← HL.out]
    exact H2
  · have HF := hide (find_miss hv (by omega) hno g i hc)
    rw [bhas_miss hno, bput_miss hno]
    have HH := hide H
    obtain ⟨i0, hi0, hz0, hz1, hz2⟩ := info_parts info_entry
    have he : (enV (l ++ [(k, y)])) = enV l ++ [.string k, .pointer (some ⟨Int.toNat y, 0, none⟩)] := by rw [enV_app, enV_one]
    have HE := hide he
    have hlen : (l ++ [(k, y)]).length = l.length + 1 := by simp
    have HL := hide hlen
    clear hv hno H he hlen
    obtain ⟨q, hq⟩ : ∃ q, l.length = q := ⟨_, rfl⟩
    rw [hq] at hn
    go_enter Tryz.func117, Tryz.ntmps117
    go_wp2_with (first
      | (go_at_call 121; refine HF.out.mono ?_; rintro e w1 ⟨rfl, hg1⟩; have hc1 := cell_grown0 hg1 hc; have H1 := hide (HH.out.step hg1); have hrow : w1.ownsRow 0 171 2 (f i) l.length (enV l) := H1.out.q.2.1.1; rw [hq] at hrow)
      | (at_builtin; refine wpList_append_own_at _ rfl _ _ 168 rfl 0 171 i0 (.agg #[.string ⟨#[]⟩, .pointer none]) 2 24 Tryz.underlying168 hi0 hz0 hz1 hz2 rfl (by decide) _ _ _ rfl (hrow.alloc _) ⟨w1.heap.size, 0, none⟩ 1 1 [.string k, .pointer (some ⟨Int.toNat y, 0, none⟩)] rfl rfl (cell_two_new _ _ _ _) (by simp [Value.oneCell']) (by unfold maxLen; omega) (by omega) (Nat.zero_le _) ?_; intro v' w2 hown' hgrow _ hat; obtain ⟨g', cap', rfl⟩ := ownsRow_succ hown'; rw [← HE.out] at hown'; have H2 := hide ((H1.out.rot.app hown' hgrow hat).rot); obtain ⟨d1, d2⟩ := ar_cell H2.out.q.1 hi; clear hrow hown' hgrow hat))
    go_ret
    refine ⟨rfl, .slice (some ⟨g', 0, none⟩) (q + 1) cap', ?_⟩
    unfold enP
    rw [HL.out, hq]
    exact H2.out.bkSet (i := i) (.slice (some ⟨g', 0, none⟩) (q + 1) cap')
end Go.Proofs.YtckjjfkfapfdaaaGreat
