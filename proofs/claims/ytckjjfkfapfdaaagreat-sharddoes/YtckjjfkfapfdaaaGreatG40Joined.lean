/- What the document's own Class and Bytes answer. Conditions: none. Chunks as cells, and what is appended of them. Conditions: none. What the document's own slab answers: Used, Has, New. Conditions: at most 10000 chunks in each list. What the document's own slab does: New, Fits, Free. Conditions: at most 9000 chunks in each list. What the document's own slab does: New, Fits, Take. Conditions: at most 9000 chunks in each list. What Take of the document's own slab does. Conditions: at most 9000 chunks in each list. -/
import Derived.Test.YtckjjfkfapfdaaaGreatG14Joined
import Derived.Test.YtckjjfkfapfdaaaGreatG13Joined
import Derived.Test.YtckjjfkfapfdaaaGreatG00Joined
import Derived.Maps.AppendAt
import Derived.Laws.OwnMore
import Derived.RegionTactic
import Derived.BigQuiet
import Derived.Deep.RegionHeldLaw
import Derived.Deep.RegionLaw
import Derived.Laws.ResultCell
import Derived.Deep.CutBlock
import Derived.Deep.CutRange
namespace Go.Proofs.YtckjjfkfapfdaaaGreat
open Go.RowKit
set_option maxRecDepth 100000

theorem bytes_pow (j : Nat) (h : j < 6) : bytesC (j : Int) = ((64 * 2 ^ j : Nat) : Int) := by
  have : j = 0 ∨ j = 1 ∨ j = 2 ∨ j = 3 ∨ j = 4 ∨ j = 5 := by omega
  rcases this with rfl | rfl | rfl | rfl | rfl | rfl <;> rfl
theorem bytes_out (k : Int) (h : k < 0 ∨ 6 ≤ k) : bytesC k = 0 := by
  unfold bytesC
  repeat' split
  all_goals omega
theorem cls_found (size : Int) (j : Nat) (hj : j < 6) (h1 : size ≤ bytesC j) (h2 : ∀ i, i < j → bytesC (i : Nat) < size) : clsOf size = j ∧ clsErr size = 0 := by
  have b0 := h2 0
  have b1 := h2 1
  have b2 := h2 2
  have b3 := h2 3
  have b4 := h2 4
  have : j = 0 ∨ j = 1 ∨ j = 2 ∨ j = 3 ∨ j = 4 ∨ j = 5 := by omega
  unfold clsOf clsErr
  rcases this with rfl | rfl | rfl | rfl | rfl | rfl <;> simp [bytesC] at h1 b0 b1 b2 b3 b4 <;> (constructor <;> (repeat' split) <;> omega)
theorem cls_none (size : Int) (h2 : ∀ i, i < 6 → bytesC (i : Nat) < size) : clsOf size = 0 ∧ clsErr size = 4 := by
  have b5 := h2 5 (by decide)
  simp [bytesC] at b5
  unfold clsOf clsErr
  constructor <;> (repeat' split) <;> omega
theorem two_pow_le (j : Nat) (h : j < 6) : 64 * 2 ^ j ≤ 2048 := by
  have : j = 0 ∨ j = 1 ∨ j = 2 ∨ j = 3 ∨ j = 4 ∨ j = 5 := by omega
  rcases this with rfl | rfl | rfl | rfl | rfl | rfl <;> decide
set_option maxHeartbeats 1000000 in
theorem rbytes_any (k : Int) (w : World) : Calls Tryz.prog 44 #[.int .i64 k] w fun e w' => e = .returned (.int .i64 (bytesC k)) ∧ w = w' := by
  by_cases hk : 0 ≤ k ∧ k < 6
  · obtain ⟨hk0, hk6⟩ := hk
    obtain ⟨n, rfl⟩ := Int.eq_ofNat_of_zero_le hk0
    have hn : n < 6 := by omega
    have HP := hide (bytes_pow n hn)
    go_enter Tryz.func44, Tryz.ntmps44
    go_wp2
    go_loop [3, 4] (fun m i => ∃ j : Nat, j ≤ n ∧ i = .int .i64 j ∧ m = .int .i64 ((64 * 2 ^ j : Nat) : Int)) (fun _ i => n - (intOf i).toNat)
    case atStart => exact ⟨0, Nat.zero_le _, rfl, rfl⟩
    case round =>
      obtain ⟨j, hj, rfl, rfl⟩ := hrel
      by_cases hlt : j < n
      · have hle := two_pow_le j (by omega)
        have HS : Hid ((64 * 2 ^ (j + 1) : Nat) = 2 * (64 * 2 ^ j)) := by show _ = _; rw [Nat.pow_succ]; omega
        generalize 64 * 2 ^ j = m at *
        go_wp2
        go_round
        case rel => exact ⟨j + 1, by omega, by go_num, by rw [HS.out]; go_num⟩
        case measure => simp [intOf]; omega
      · obtain rfl : j = n := by omega
        go_wp2
        go_ret
        exact ⟨by rw [HP.out]; rfl, rfl⟩
  · have hout : k < 0 ∨ 6 ≤ k := by omega
    have HB := hide (bytes_out k hout)
    clear hk
    rcases hout with h | h
    · go_enter Tryz.func44, Tryz.ntmps44
      go_wp2
      go_ret
      exact ⟨by rw [HB.out]; rfl, rfl⟩
    · go_enter Tryz.func44, Tryz.ntmps44
      go_wp2
      go_ret
      exact ⟨by rw [HB.out]; rfl, rfl⟩
set_option maxHeartbeats 1000000 in
theorem rclass_any (size : Int) (w : World) : Calls Tryz.prog 62 #[.int .i64 size] w fun e w' => e = .returned (.tuple #[.int .i64 (clsOf size), .int .i64 (clsErr size)]) ∧ w = w' := by
  go_enter Tryz.func62, Tryz.ntmps62
  go_wp2
  go_loop [4] (fun i => ∃ j : Nat, j ≤ 6 ∧ i = .int .i64 j ∧ Hid (∀ i, i < j → bytesC (i : Nat) < size)) (fun i => 6 - (intOf i).toNat)
  case atStart => exact ⟨0, by omega, rfl, fun i hi => (Nat.not_lt_zero _ hi).elim⟩
  case round =>
    obtain ⟨j, hj, rfl, HJ⟩ := hrel
    by_cases hlt : j < 6
    · by_cases hs : size ≤ bytesC j
      · have HF := hide (cls_found size j hlt hs HJ.out)
        go_wp2_with (go_at_call 44; refine (rbytes_any _ _).mono ?_; rintro e w1 ⟨rfl, rfl⟩)
        go_ret2
        exact ⟨by rw [HF.out.1, HF.out.2]; rfl, rfl⟩
      · have hs2 : bytesC j < size := by omega
        clear hs
        have HS : Hid (∀ i, i < j + 1 → bytesC (i : Nat) < size) := fun i hi => by
          by_cases e : i = j
          · rw [e]; exact hs2
          · exact HJ.out i (by omega)
        go_wp2_with (go_at_call 44; refine (rbytes_any _ _).mono ?_; rintro e w1 ⟨rfl, rfl⟩)
        go_round
        case rel => exact ⟨j + 1, by omega, by go_num, HS⟩
        case measure => simp [intOf]; omega
    · obtain rfl : j = 6 := by omega
      have HN := hide (cls_none size HJ.out)
      go_wp2
      go_ret2
      exact ⟨by rw [HN.out.1, HN.out.2]; rfl, rfl⟩
end Go.Proofs.YtckjjfkfapfdaaaGreat

namespace Go.Proofs.YtckjjfkfapfdaaaGreat
open Go.RowKit
set_option maxRecDepth 100000

theorem cells2K {w : World} {k : Nat} {t : TypeId} {x y : Value} (h : w.heap[k]? = some (.cells #[x, y] t (0, 0))) : w.cell? ⟨k, 0, none⟩ = some x ∧ w.cell? ⟨k, 1, none⟩ = some y := by
  simp [World.cell?, h]
/-- Chunks as cells. -/
def cksV (l : List Ck) : List Value := l.flatMap fun c => [.int .i64 c.1, .int .i64 c.2]
theorem cksV_len : ∀ l : List Ck, (cksV l).length = l.length * 2
  | [] => rfl
  | c :: l => by
    show ([_, _] ++ cksV l).length = _
    rw [List.length_append, cksV_len l, List.length_cons]
    simp
    omega
theorem cksV_app (l : List Ck) (c : Ck) : cksV (l ++ [c]) = cksV l ++ [.int .i64 c.1, .int .i64 c.2] := by simp [cksV]
theorem cksV_get : ∀ (l : List Ck) (i : Nat) (h : i < l.length), (cksV l)[i * 2]? = some (.int .i64 l[i].1) ∧ (cksV l)[i * 2 + 1]? = some (.int .i64 l[i].2)
  | c :: l, 0, _ => ⟨rfl, rfl⟩
  | c :: l, i + 1, h => by
    have ih := cksV_get l i (by simpa using h)
    have e : cksV (c :: l) = .int .i64 c.1 :: .int .i64 c.2 :: cksV l := rfl
    rw [e, show (i + 1) * 2 = i * 2 + 1 + 1 by omega]
    exact ih
/-- One of them, in memory. -/
theorem chunk_at {w : World} {base : Nat} {v : Value} {l : List Ck} (h : w.ownsRow base 85 2 v l.length (cksV l)) (i : Nat) (hi : i < l.length) :
    ∃ g cap, v = .slice (some ⟨g, 0, none⟩) l.length cap ∧ w.cell? ⟨g, i * 2, none⟩ = some (.int .i64 l[i].1) ∧ w.cell? ⟨g, i * 2 + 1, none⟩ = some (.int .i64 l[i].2) := by
  obtain ⟨g, cap, rfl⟩ := own_form h (by omega)
  exact ⟨g, cap, rfl, (h.cellAt (i * 2) (by omega)).trans (cksV_get l i hi).1, (h.cellAt (i * 2 + 1) (by omega)).trans (cksV_get l i hi).2⟩
theorem info_chunk : (Tryz.prog.info? 85).map (fun i => (i.zero, i.size, i.bytes)) = some (some (.agg #[.int .i64 0, .int .i64 0]), 2, 16) := by kernel_rfl
theorem take_zero {st : Sb} {size : Int} (h : takeErr st size = 0) : (takeS st size).inn = st.inn ++ [takeCk st size] := by
  unfold takeS takeCk
  rw [if_pos h, if_pos h]
  unfold addC
  split <;> rfl
theorem take_not {st : Sb} {size : Int} (h : ¬ takeErr st size = 0) : takeS st size = st := by
  unfold takeS
  rw [if_neg h]
theorem free_in {st : Sb} (h : GoodS st) {c : Ck} (hc : c ∈ st.inn) : freeErr st c = 0 ∧ freeErr (freeS st c) c = 1 ∧ freeS (freeS st c) c = freeS st c ∧ usedS (freeS st c) = usedS st - bytesC c.1 ∧ ∀ d, (d ∈ (freeS st c).inn ↔ d ∈ st.inn ∧ d ≠ c) := by
  have hn : st.inn.Nodup := (List.nodup_append.1 h.nodup).1
  have e : (freeS st c).inn = st.inn.erase c := by unfold freeS; rw [if_pos hc]
  have hm : ∀ d, (d ∈ (freeS st c).inn ↔ d ∈ st.inn ∧ d ≠ c) := fun d => by
    rw [e, hn.mem_erase_iff]
    exact And.comm
  have hno : ¬ c ∈ (freeS st c).inn := fun x => ((hm c).1 x).2 rfl
  refine ⟨if_pos hc, if_neg hno, ?_, ?_, hm⟩
  · show (if c ∈ (freeS st c).inn then _ else freeS st c) = _
    rw [if_neg hno]
  · show sumB (freeS st c).inn = _
    rw [e, sumB_erase _ _ hc]
    rfl
theorem cell_two_new (w : World) (x y : Value) (t : TypeId) : ∀ j u, [x, y][j]? = some u → (w.alloc (.cells #[x, y] t)).cell? ((⟨w.heap.size, 0, none⟩ : Addr).add j) = some u := by
  intro j u h
  have hh : (w.alloc (.cells #[x, y] t)).heap[w.heap.size]? = some (.cells #[x, y] t) := heap_alloc_new w _
  have hadd : (⟨w.heap.size, 0, none⟩ : Addr).add j = ⟨w.heap.size, j, none⟩ := by unfold Addr.add; split <;> simp_all
  rw [hadd, cell_of_row _ _ _ _ _ _ hh]
  simpa using h

theorem cell_two_more (w : World) (o : Obj) (x y : Value) (t : TypeId) : ∀ j u, [x, y][j]? = some u → ((w.alloc o).alloc (.cells #[x, y] t)).cell? ((⟨w.heap.size + 1, 0, none⟩ : Addr).add j) = some u := by
  have := cell_two_new (w.alloc o) x y t
  rwa [World.size_alloc] at this
theorem chunk_cells {w : World} {base g cap n : Nat} {l : List Ck} (h : w.ownsRow base 85 2 (.slice (some ⟨g, 0, none⟩) n cap) n (cksV l)) (i : Nat) (hi : i < l.length) :
    w.cell? ⟨g, i * 2, none⟩ = some (.int .i64 l[i].1) ∧ w.cell? ⟨g, i * 2 + 1, none⟩ = some (.int .i64 l[i].2) := by
  have hl := h.1
  rw [cksV_len] at hl
  exact ⟨(h.cellAt (i * 2) (by omega)).trans (cksV_get l i hi).1, (h.cellAt (i * 2 + 1) (by omega)).trans (cksV_get l i hi).2⟩
/-- Numbers as cells. -/
def errV (l : List Int) : List Value := l.map fun e => .int .i64 e
theorem err_cells {w : World} {base g cap n : Nat} {t : TypeId} {l : List Int} (h : w.ownsRow base t 1 (.slice (some ⟨g, 0, none⟩) n cap) n (errV l)) (i : Nat) (hi : i < l.length) : w.cell? ⟨g, i, none⟩ = some (.int .i64 l[i]) := by
  have hl := h.1
  unfold errV at hl
  rw [List.length_map] at hl
  rw [h.cellAt i (by omega)]
  unfold errV
  rw [List.getElem?_map, List.getElem?_eq_getElem hi]
  rfl
/-- Chunks without one of them. -/
theorem cksV_erase (l : List Ck) (k : Nat) : (cksV l).take (k * 2) ++ (cksV l).drop ((k + 1) * 2) = cksV (l.eraseIdx k) := by
  have tk : ∀ (l : List Ck) (k : Nat), (cksV l).take (k * 2) = cksV (l.take k) := by
    intro l
    induction l with
    | nil => intro k; simp [cksV]
    | cons c l ih =>
      intro k
      cases k with
      | zero => simp [cksV]
      | succ k =>
        show (.int .i64 c.1 :: .int .i64 c.2 :: cksV l).take ((k + 1) * 2) = .int .i64 c.1 :: .int .i64 c.2 :: cksV (l.take k)
        rw [show (k + 1) * 2 = k * 2 + 1 + 1 by omega, List.take_succ_cons, List.take_succ_cons, ih]
  have dr : ∀ (l : List Ck) (k : Nat), (cksV l).drop (k * 2) = cksV (l.drop k) := by
    intro l
    induction l with
    | nil => intro k; simp [cksV]
    | cons c l ih =>
      intro k
      cases k with
      | zero => simp
      | succ k =>
        show (.int .i64 c.1 :: .int .i64 c.2 :: cksV l).drop ((k + 1) * 2) = cksV (l.drop k)
        rw [show (k + 1) * 2 = k * 2 + 1 + 1 by omega, List.drop_succ_cons, List.drop_succ_cons, ih]
  rw [tk, dr, List.eraseIdx_eq_take_drop_succ]
  simp [cksV]
theorem erase_idx {l : List Ck} (hn : l.Nodup) (k : Nat) (h : k < l.length) : l.erase l[k] = l.eraseIdx k := by
  induction l generalizing k with
  | nil => cases h
  | cons c l ih =>
    cases k with
    | zero => simp
    | succ k =>
      rw [List.nodup_cons] at hn
      have hk : k < l.length := by simpa using h
      have hne : ¬ c = l[k] := fun e => hn.1 (by rw [e]; exact List.getElem_mem hk)
      rw [List.getElem_cons_succ, List.erase_cons_tail (by simpa using hne), ih hn.2 k hk]
      rfl
theorem cksV_one (l : List Ck) : ∀ u ∈ cksV l, u.oneCell' = true := by
  intro u hu
  obtain ⟨c, _, hc⟩ := List.mem_flatMap.1 hu
  simp at hc
  rcases hc with rfl | rfl <;> rfl
theorem take_news {w : World} {base g n cap : Nat} {l : List Ck} (h : w.ownsRow base 85 2 (.slice (some ⟨g, 0, none⟩) n cap) n (cksV l)) (k : Nat) (hk : k < l.length) :
    ∀ j u, ((cksV l).take (k * 2))[j]? = some u → w.cell? ((⟨g, 0, none⟩ : Addr).add j) = some u := by
  intro j u hu
  have hl := h.1
  rw [cksV_len] at hl
  have hj : j < k * 2 := by
    have := (List.getElem?_eq_some_iff.1 hu).1
    rw [List.length_take] at this
    omega
  rw [List.getElem?_take, if_pos hj] at hu
  have hadd : (⟨g, 0, none⟩ : Addr).add j = ⟨g, j, none⟩ := by unfold Addr.add; split <;> simp_all
  rw [hadd, h.cellAt j (by omega)]
  exact hu
theorem drop_news {w : World} {base g n cap : Nat} {l : List Ck} (h : w.ownsRow base 85 2 (.slice (some ⟨g, 0, none⟩) n cap) n (cksV l)) (k : Nat) (hk : k < l.length) :
    ∀ j u, ((cksV l).drop ((k + 1) * 2))[j]? = some u → w.cell? ((⟨g, (k + 1) * 2, none⟩ : Addr).add j) = some u := by
  intro j u hu
  have hl := h.1
  rw [cksV_len] at hl
  have hj : j < l.length * 2 - (k + 1) * 2 := by
    have := (List.getElem?_eq_some_iff.1 hu).1
    rw [List.length_drop, cksV_len] at this
    omega
  rw [List.getElem?_drop] at hu
  have hadd : (⟨g, (k + 1) * 2, none⟩ : Addr).add j = ⟨g, (k + 1) * 2 + j, none⟩ := by unfold Addr.add; split <;> simp_all
  rw [hadd, h.cellAt _ (by omega)]
  exact hu
/-- Two appends, the first one onto nothing: all that is written is new. -/
theorem two_steps {W w8 w9 : World} {v1 v2 : Value} (g1 : W.grownBy w8 (Value.slice none 0 0).ownBlock) (a1 : v1.ownBlock = (Value.slice none 0 0).ownBlock ∨ v1.ownBlock = some W.heap.size) (g2 : w8.grownBy w9 v1.ownBlock) (a2 : v2.ownBlock = v1.ownBlock ∨ v2.ownBlock = some w8.heap.size) :
    W.grownBy w9 none ∧ ∀ j, v2.ownBlock = some j → W.heap.size ≤ j := by
  have e0 : (Value.slice none 0 0).ownBlock = none := rfl
  rw [e0] at g1 a1
  have hs := g1.size
  rcases a1 with e1 | e1
  · rw [e1] at g2 a2
    refine ⟨gr_trans g1 g2, fun j hj => ?_⟩
    rcases a2 with e2 | e2
    · rw [e2] at hj; cases hj
    · rw [e2] at hj; cases hj; exact hs
  · rw [e1] at g2 a2
    refine ⟨gr_new g1 g2 (Nat.le_refl _), fun j hj => ?_⟩
    rcases a2 with e2 | e2
    · rw [e2] at hj; cases hj; exact Nat.le_refl _
    · rw [e2] at hj; cases hj; exact hs
/-- What stands behind one of them, wherever the slice's address is said to be. -/
theorem tail_news {w : World} {base g n cap : Nat} {l : List Ck} (h : w.ownsRow base 85 2 (.slice (some ⟨g, 0, none⟩) n cap) n (cksV l)) (k : Nat) (hk : k < l.length) :
    ∃ ad : Addr, (if cap = k + 1 then some (⟨g, 0, none⟩ : Addr) else some ⟨g, (k + 1) * 2, none⟩) = some ad ∧ ∀ w' : World, w.grownBy w' none → ∀ j u, ((cksV l).drop ((k + 1) * 2))[j]? = some u → w'.cell? (ad.add j) = some u := by
  have hl := h.1
  rw [cksV_len] at hl
  have hc := own_cap h
  by_cases hce : cap = k + 1
  · refine ⟨⟨g, 0, none⟩, by rw [if_pos hce], fun w' _ j u hu => ?_⟩
    have := (List.getElem?_eq_some_iff.1 hu).1
    rw [List.length_drop, cksV_len] at this
    omega
  · refine ⟨⟨g, (k + 1) * 2, none⟩, by rw [if_neg hce], fun w' hg j u hu => ?_⟩
    have h1 := drop_news h k hk j u hu
    have h2 := block_lt_of_cell h1
    have hadd : (⟨g, (k + 1) * 2, none⟩ : Addr).add j = ⟨g, (k + 1) * 2 + j, none⟩ := by unfold Addr.add; split <;> simp_all
    rw [hadd] at h1 h2 ⊢
    rw [World.cell?_of_block (w := w) (hg.block g h2 (by simp))]
    exact h1
end Go.Proofs.YtckjjfkfapfdaaaGreat

namespace Go.Proofs.YtckjjfkfapfdaaaGreat
open Go.RowKit
set_option maxRecDepth 100000

/-- How many of each class were made, as cells. -/
def madeV (l : List Nat) : Array Value := (l.map fun m : Nat => Value.int .i64 (m : Int)).toArray
/-- The document's slab at block h. -/
structure RSl (n0 : Nat) (w : World) (h : Nat) (st : Sb) (vi vg : Value) (gm : Nat) : Prop where
  head : w.heap[h]? = some (.cells #[.int .i64 st.bud, vi, vg, .slice (some ⟨gm, 0, none⟩) 6 6] 94 (0, 0))
  inn : w.ownsRow n0 85 2 vi st.inn.length (cksV st.inn)
  gone : w.ownsRow n0 85 2 vg st.gone.length (cksV st.gone)
  made : w.heap[gm]? = some (.cells (madeV st.made) 3 (0, 0))
  len : st.made.length = 6
  ih : vi.ownBlock ≠ some h
  im : vi.ownBlock ≠ some gm
  gh : vg.ownBlock ≠ some h
  gg : vg.ownBlock ≠ some gm
  ig : ∀ k, vi.ownBlock = some k → vg.ownBlock ≠ some k
  hm : h ≠ gm
  h0 : n0 ≤ h
  m0 : n0 ≤ gm
/-- Its blocks. -/
def ROwn (h gm : Nat) (vi vg : Value) : Nat → Prop := fun k => k = h ∨ k = gm ∨ vi.ownBlock = some k ∨ vg.ownBlock = some k
section
variable {n0 h gm : Nat} {w w' : World} {st : Sb} {vi vg : Value}
theorem RSl.same (R : RSl n0 w h st vi vg gm) (hs : ∀ k, ROwn h gm vi vg k → w'.heap[k]? = w.heap[k]?) : RSl n0 w' h st vi vg gm :=
  { R with
    head := (hs h (.inl rfl)).trans R.head
    inn := own_same R.inn fun k hk => hs k (.inr (.inr (.inl hk)))
    gone := own_same R.gone fun k hk => hs k (.inr (.inr (.inr hk)))
    made := (hs gm (.inr (.inl rfl))).trans R.made }
theorem RSl.lt (R : RSl n0 w h st vi vg gm) : ∀ k, ROwn h gm vi vg k → k < w.heap.size := by
  rintro k (rfl | rfl | hk | hk)
  · exact (Array.getElem?_eq_some_iff.1 R.head).1
  · exact (Array.getElem?_eq_some_iff.1 R.made).1
  · exact (R.inn.lt k hk).2
  · exact (R.gone.lt k hk).2
theorem RSl.from0 (R : RSl n0 w h st vi vg gm) : ∀ k, ROwn h gm vi vg k → n0 ≤ k := by
  rintro k (rfl | rfl | hk | hk)
  · exact R.h0
  · exact R.m0
  · exact (R.inn.lt k hk).1
  · exact (R.gone.lt k hk).1
theorem RSl.kept (R : RSl n0 w h st vi vg gm) (hg : w.grownBy w' none) : RSl n0 w' h st vi vg gm := R.same fun k hk => hg.block k (R.lt k hk) (by simp)
theorem RSl.budC (R : RSl n0 w h st vi vg gm) : w.cell? ⟨h, 0, none⟩ = some (.int .i64 st.bud) := by simp [World.cell?, R.head]
theorem RSl.innC (R : RSl n0 w h st vi vg gm) : w.cell? ⟨h, 1, none⟩ = some vi := by simp [World.cell?, R.head]
theorem RSl.goneC (R : RSl n0 w h st vi vg gm) : w.cell? ⟨h, 2, none⟩ = some vg := by simp [World.cell?, R.head]
theorem RSl.madeC (R : RSl n0 w h st vi vg gm) : w.cell? ⟨h, 3, none⟩ = some (.slice (some ⟨gm, 0, none⟩) 6 6) := by simp [World.cell?, R.head]
theorem RSl.free (R : RSl n0 w h st vi vg gm) (j : Nat) : w.frozen? ⟨h, j, none⟩ = false := by simp [World.frozen?, R.head]
end

set_option maxHeartbeats 1000000 in
theorem rused_any {n0 h gm : Nat} {w : World} {st : Sb} {vi vg : Value} (R : RSl n0 w h st vi vg gm) (hs : Small st 10000) : Calls Tryz.prog 16 #[.pointer (some ⟨h, 0, none⟩)] w fun e w' => e = .returned (.int .i64 (usedS st)) ∧ w = w' := by
  have hc1 := R.innC
  have hn := hs.inn
  obtain ⟨pv, cv, rfl⟩ := own_shape R.inn
  have HU : Hid (usedS st = sumB st.inn) := rfl
  go_enter Tryz.func16, Tryz.ntmps16
  go_wp2
  go_loop [3, 4] (fun m i => ∃ j : Nat, j ≤ st.inn.length ∧ i = .int .i64 j ∧ m = .int .i64 (sumB (st.inn.take j))) (fun _ i => st.inn.length - (intOf i).toNat)
  case atStart => exact ⟨0, Nat.zero_le _, rfl, rfl⟩
  case round =>
    obtain ⟨j, hj, rfl, rfl⟩ := hrel
    by_cases hjn : j < st.inn.length
    · obtain ⟨g1, cv3, e4⟩ := own_form R.inn (by omega)
      cases e4
      obtain ⟨⟨u, v⟩, huv⟩ : ∃ c, st.inn[j] = c := ⟨_, rfl⟩
      obtain ⟨c0, c1⟩ := chunk_cells R.inn j hjn
      rw [huv] at c0 c1
      have hS : sumB (st.inn.take (j + 1)) = sumB (st.inn.take j) + bytesC u := by
        rw [List.take_succ_eq_append_getElem hjn, sumB_app, huv, sumB_one]
      have l1 := sumB_nonneg (st.inn.take j)
      have l2 := sumB_le (st.inn.take j)
      have l3 : (st.inn.take j).length ≤ j := by rw [List.length_take]; omega
      have l4 := bytes_nonneg u
      have l5 := bytes_le u
      obtain ⟨bu, hbu⟩ : ∃ m, bytesC u = m := ⟨_, rfl⟩
      rw [hbu] at hS l4 l5
      have HBU := hide hbu
      have HSS := hide hS
      generalize sumB (st.inn.take j) = sm at *
      have hw : wrap64 (sm + bu) = sm + bu := by unfold wrap64; omega
      clear hbu hS huv
      go_wp2_with (go_at_call 44; refine (rbytes_any u _).mono ?_; rintro e w8 ⟨he, rfl⟩; rw [HBU.out] at he; subst he)
      go_round
      case rel => exact ⟨j + 1, by omega, by go_num, by rw [HSS.out]⟩
      case measure => simp [intOf]; omega
    · obtain rfl : j = st.inn.length := by omega
      rw [List.take_length]
      go_wp2
      go_ret
      exact ⟨by rw [HU.out]; rfl, rfl⟩
end Go.Proofs.YtckjjfkfapfdaaaGreat

namespace Go.Proofs.YtckjjfkfapfdaaaGreat
open Go.RowKit
set_option maxRecDepth 100000

section
variable {n0 h gm : Nat} {w w1 : World} {st : Sb} {vi vg v' : Value} {tmp : Obj}
theorem head_set {w : World} {h : Nat} {a b c d : Value} {t : TypeId} (hh : w.heap[h]? = some (.cells #[a, b, c, d] t (0, 0))) (v : Value) : (w.setCell ⟨h, 1, none⟩ v).heap[h]? = some (.cells #[a, v, c, d] t (0, 0)) ∧ (w.setCell ⟨h, 2, none⟩ v).heap[h]? = some (.cells #[a, b, v, d] t (0, 0)) :=
  ⟨heap_setCell_same w h 1 #[a, b, c, d] t v hh, heap_setCell_same w h 2 #[a, b, c, d] t v hh⟩
theorem row_set {w : World} {n0 n h o : Nat} {e : TypeId} {u v : Value} {xs : List Value} (hr : w.ownsRow n0 e 2 u n xs) (hu : u.ownBlock ≠ some h) : (w.setCell ⟨h, o, none⟩ v).ownsRow n0 e 2 u n xs :=
  own_same hr fun k hk => heap_setCell_other _ _ _ _ (fun e => hu (by rw [hk, e]))
/-- Another list in use, in new memory. -/
theorem RSl.setInn (R : RSl n0 w h st vi vg gm) (l : List Ck) (v : Value) (hr : w.ownsRow n0 85 2 v l.length (cksV l)) (hn : ∀ k, v.ownBlock = some k → ¬ (k = h ∨ k = gm ∨ vg.ownBlock = some k)) :
    RSl n0 (w.setCell ⟨h, 1, none⟩ v) h ⟨st.bud, l, st.gone, st.made⟩ v vg gm :=
  have hv : v.ownBlock ≠ some h := fun e => hn h e (.inl rfl)
  { head := (head_set R.head v).1, inn := row_set hr hv, gone := row_set R.gone R.gh, made := (heap_setCell_other _ _ _ _ (fun e => R.hm e.symm)).trans R.made, len := R.len, ih := hv, im := fun e => hn gm e (.inr (.inl rfl)), gh := R.gh, gg := R.gg,
    ig := fun k hk hg => hn k hk (.inr (.inr hg)), hm := R.hm, h0 := R.h0, m0 := R.m0 }
theorem RSl.setGone (R : RSl n0 w h st vi vg gm) (l : List Ck) (v : Value) (hr : w.ownsRow n0 85 2 v l.length (cksV l)) (hn : ∀ k, v.ownBlock = some k → ¬ (k = h ∨ k = gm ∨ vi.ownBlock = some k)) :
    RSl n0 (w.setCell ⟨h, 2, none⟩ v) h ⟨st.bud, st.inn, l, st.made⟩ vi v gm :=
  have hv : v.ownBlock ≠ some h := fun e => hn h e (.inl rfl)
  { head := (head_set R.head v).2, inn := row_set R.inn R.ih, gone := row_set hr hv, made := (heap_setCell_other _ _ _ _ (fun e => R.hm e.symm)).trans R.made, len := R.len, ih := R.ih, im := R.im, gh := hv, gg := fun e => hn gm e (.inr (.inl rfl)),
    ig := fun k hk hg => hn k hg (.inr (.inr hk)), hm := R.hm, h0 := R.h0, m0 := R.m0 }
theorem gr_set (F : Nat → Prop) (w : World) (b o : Nat) (v : Value) (hF : F b) : Gr F w (w.setCell ⟨b, o, none⟩ v) :=
  ⟨rfl, rfl, rfl, Nat.le_of_eq (World.size_setCell _ _ _).symm, fun k _ hk => heap_setCell_other _ _ _ _ (fun e => hk (by rw [e]; exact hF))⟩
/-- One more that was let go. -/
theorem RSl.appGone (R : RSl n0 w h st vi vg gm) (x y : Int) (hown : w1.ownsRow n0 85 2 v' (st.gone.length + 1) (cksV st.gone ++ [.int .i64 x, .int .i64 y])) (hgrow : (w.alloc tmp).grownBy w1 vg.ownBlock) (hat : v'.ownBlock = vg.ownBlock ∨ v'.ownBlock = some (w.alloc tmp).heap.size) :
    w1.cell? ⟨h, 2, none⟩ = some vg ∧ w1.frozen? ⟨h, 2, none⟩ = false ∧ RSl n0 (w1.setCell ⟨h, 2, none⟩ v') h ⟨st.bud, st.inn, st.gone ++ [(x, y)], st.made⟩ vi v' gm ∧ Gr (ROwn h gm vi vg) w (w1.setCell ⟨h, 2, none⟩ v') ∧ (∀ k, ROwn h gm vi v' k → ROwn h gm vi vg k ∨ w.heap.size ≤ k) := by
  have hsa : (w.alloc tmp).heap.size = w.heap.size + 1 := World.size_alloc _ _
  have old : ∀ k, k < w.heap.size → vg.ownBlock ≠ some k → w1.heap[k]? = w.heap[k]? := fun k hk hv => (hgrow.block k (by omega) (fun e => hv e.symm)).trans (Below.heap_alloc _ _ _ hk)
  have lh := R.lt h (.inl rfl)
  have lm := R.lt gm (.inr (.inl rfl))
  have hhead := (old h lh R.gh).trans R.head
  have hmade := (old gm lm R.gg).trans R.made
  have hinn : w1.ownsRow n0 85 2 vi st.inn.length (cksV st.inn) := own_same R.inn fun k hk => old k (R.lt k (.inr (.inr (.inl hk)))) (R.ig k hk)
  have hv : ∀ k, v'.ownBlock = some k → vg.ownBlock = some k ∨ w.heap.size ≤ k := fun k hk => by
    rcases hat with e | e
    · exact .inl (by rw [← e]; exact hk)
    · rw [e] at hk
      cases hk
      exact .inr (by omega)
  have hne : ∀ k, v'.ownBlock = some k → ¬ (k = h ∨ k = gm ∨ vi.ownBlock = some k) := fun k hk => by
    rcases hv k hk with e | e
    · rintro (rfl | rfl | e2)
      · exact R.gh e
      · exact R.gg e
      · exact R.ig k e2 e
    · rintro (rfl | rfl | e2)
      · omega
      · omega
      · have := R.lt k (.inr (.inr (.inl e2)))
        omega
  have hvh : v'.ownBlock ≠ some h := fun e => hne h e (.inl rfl)
  have hown2 : w1.ownsRow n0 85 2 v' (st.gone ++ [(x, y)]).length (cksV (st.gone ++ [(x, y)])) := by
    rw [List.length_append, cksV_app]
    exact hown
  refine ⟨by simp [World.cell?, hhead], by simp [World.frozen?, hhead], ?_, ?_, ?_⟩
  · exact { head := (head_set hhead v').2, inn := row_set hinn R.ih, gone := row_set hown2 hvh, made := (heap_setCell_other _ _ _ _ (fun e => R.hm e.symm)).trans hmade, len := R.len, ih := R.ih, im := R.im, gh := hvh, gg := fun e => hne gm e (.inr (.inl rfl)), ig := fun k hk hg => hne k hg (.inr (.inr hk)), hm := R.hm, h0 := R.h0, m0 := R.m0 }
  · refine ⟨hgrow.1, hgrow.2, hgrow.3, ?_, fun k hk hr => ?_⟩
    · have := hgrow.4
      rw [World.size_setCell]
      omega
    · rw [heap_setCell_other _ _ _ _ (fun e => hr (.inl e))]
      exact old k hk (fun e => hr (.inr (.inr (.inr e))))
  · rintro k (e | e | e | e)
    · exact .inl (.inl e)
    · exact .inl (.inr (.inl e))
    · exact .inl (.inr (.inr (.inl e)))
    · exact (hv k e).elim (fun e => .inl (.inr (.inr (.inr e)))) .inr
end

theorem gr_mono2 {F G : Nat → Prop} {a b : World} (h : Gr F a b) (hF : ∀ k, F k → G k) : Gr G a b := ⟨h.os, h.tape, h.output, h.size, fun k hk hr => h.block k hk (fun hf => hr (hF k hf))⟩
theorem gr_drop {F : Nat → Prop} {a b : World} (h : Gr F a.drew b) : Gr F a b := ⟨h.os, h.tape, h.output, h.size, h.block⟩
theorem erased_row {w : World} {n0 j : Nat} {e : TypeId} {v : Value} {l : List Ck} (hj : j < l.length) (h : w.ownsRow n0 e 2 v (j + (l.length - (j + 1))) ([] ++ (cksV l).take (j * 2) ++ (cksV l).drop ((j + 1) * 2))) : w.ownsRow n0 e 2 v (l.eraseIdx j).length (cksV (l.eraseIdx j)) := by
  rw [← cksV_erase, List.length_eraseIdx, if_pos hj, show l.length - 1 = j + (l.length - (j + 1)) by omega]
  exact h
theorem hbase3 {n0 : Nat} {W : World} {o : Obj} (h : n0 ≤ W.heap.size) : n0 ≤ (W.alloc o).heap.size := Nat.le_trans h (by rw [World.size_alloc]; exact Nat.le_succ _)
theorem cells2_new {w W : World} {k : Nat} {t : TypeId} {x y : Value} (h : w.heap[k]? = some (.cells #[x, y] t (0, 0))) (e : W.heap[k]? = w.heap[k]?) : W.cell? ⟨k, 0, none⟩ = some x ∧ W.cell? ⟨k, 1, none⟩ = some y := cells2K (e.trans h)
set_option maxRecDepth 100000 in
set_option maxHeartbeats 4000000 in
theorem rfree_any {n0 h gm : Nat} {w : World} {st : Sb} {vi vg : Value} (R : RSl n0 w h st vi vg gm) (hG : GoodS st) (hs : Small st 9000) (hn0 : n0 ≤ w.heap.size) (x y : Int) :
    Calls Tryz.prog 65 #[.pointer (some ⟨h, 0, none⟩), .agg #[.int .i64 x, .int .i64 y]] w fun e w' => e = .returned (.int .i64 (freeErr st (x, y))) ∧ ∃ vi' vg', RSl n0 w' h (freeS st (x, y)) vi' vg' gm ∧ Gr (ROwn h gm vi vg) w w' ∧ (∀ k, ROwn h gm vi' vg' k → ROwn h gm vi vg k ∨ w.heap.size ≤ k) := by
  have hn := hs.inn
  have hgl := hs.gone
  obtain ⟨i0, hi, hz0, hz1, hz2⟩ := info_parts info_chunk
  obtain ⟨pv, cv, rfl⟩ := own_shape R.inn
  obtain ⟨pg, cg, rfl⟩ := own_shape R.gone
  have hg0 := World.grownBy_alloc w (.cells #[.int .i64 x, .int .i64 y] 85) none
  have hbx := heap_alloc_new w (.cells #[.int .i64 x, .int .i64 y] 85)
  go_enter Tryz.func65, Tryz.ntmps65
  go_wp2
  go_loopw [5] (fun i wr => ∃ j : Nat, j ≤ st.inn.length ∧ i = .int .i64 j ∧ Hid (∀ (i : Nat) (hi : i < st.inn.length), i < j → st.inn[i] ≠ (x, y)) ∧ w.grownBy wr none ∧ wr.heap[w.heap.size]? = some (.cells #[.int .i64 x, .int .i64 y] 85)) (fun i _ => st.inn.length - (intOf i).toNat)
  case atStart => exact ⟨0, Nat.zero_le _, rfl, fun i _ hi => (Nat.not_lt_zero _ hi).elim, hg0, hbx⟩
  case round =>
    clear hg0 hbx
    obtain ⟨j, hj, rfl, HJ, hg, hb⟩ := hrel
    have R1 := R.kept hg
    have hc1 := R1.innC
    obtain ⟨b0, b1⟩ := cells2K hb
    by_cases hjn : j < st.inn.length
    · obtain ⟨g1, cv3, e4⟩ := own_form R.inn (by omega)
      cases e4
      obtain ⟨⟨u, v⟩, huv⟩ : ∃ c, st.inn[j] = c := ⟨_, rfl⟩
      obtain ⟨c0, c1⟩ := chunk_cells R1.inn j hjn
      rw [huv] at c0 c1
      have HUV := hide huv
      clear huv
      by_cases heq : u = x ∧ v = y
      · obtain ⟨rfl, rfl⟩ := heq
        have hmem : (u, v) ∈ st.inn := by rw [← HUV.out]; exact List.getElem_mem hjn
        have HM : Hid (freeErr st (u, v) = 0) := if_pos hmem
        have HFS : Hid (freeS st (u, v) = ⟨st.bud, st.inn.eraseIdx j, st.gone ++ [(u, v)], st.made⟩) := by
          show freeS st (u, v) = _
          unfold freeS
          rw [if_pos hmem]
          have := erase_idx (List.nodup_append.1 hG.nodup).1 j hjn
          rw [HUV.out] at this
          rw [this]
        clear hmem
        go_wp2
        go_quiet (fail)
        have R2 : RSl n0 (wr.drewN nq) h st (.slice (some ⟨g1, 0, none⟩) st.inn.length cv) (.slice pg st.gone.length cg) gm := R1.same fun _ _ => rfl
        have hg2 : w.grownBy (wr.drewN nq) none := ⟨hg.1, hg.2, hg.3, hg.4, hg.5⟩
        have hb2 : (wr.drewN nq).heap[w.heap.size]? = some (.cells #[.int .i64 u, .int .i64 v] 85) := hb
        generalize wr.drewN nq = W at *
        clear R1 hc1 hg hb b0 b1 c0 c1
        have hc2 := R2.innC
        have hcv := own_cap R2.inn
        have hN1 := take_news R2.inn j hjn
        obtain ⟨ad, had, hN2⟩ := tail_news R2.inn j hjn
        have hl1 : ((cksV st.inn).take (j * 2)).length = j * 2 := by rw [List.length_take, cksV_len]; omega
        have hl2 : ((cksV st.inn).drop ((j + 1) * 2)).length = (st.inn.length - (j + 1)) * 2 := by rw [List.length_drop, cksV_len]; omega
        have hO1 : ∀ u ∈ (cksV st.inn).take (j * 2), u.oneCell' = true := fun u hu => cksV_one _ u (List.mem_of_mem_take hu)
        have hO2 : ∀ u ∈ (cksV st.inn).drop ((j + 1) * 2), u.oneCell' = true := fun u hu => cksV_one _ u (List.mem_of_mem_drop hu)
        have E0 : IntKind.i64.wrap ((j : Int) + 1) = (j : Int) + 1 := by
          simp [IntKind.wrap, IntKind.bits, IntKind.signed]
          omega
        have E1 : (0 : Int) ≤ (j : Int) + 1 := by omega
        have E2 : (j : Int) + 1 ≤ (st.inn.length : Int) := by omega
        have E3 : ((j : Int) + 1).toNat = j + 1 := by omega
        have hkc : j ≤ cv := by omega
        have hk1 : j + 1 ≤ st.inn.length := hjn
        have hbase : n0 ≤ W.heap.size := Nat.le_trans hn0 hg2.size
        go_wp2_with (first
          | (at_builtin; refine wpList_append_own_at _ rfl _ _ 91 rfl n0 85 i0 (.agg #[.int .i64 0, .int .i64 0]) 2 16 Tryz.underlying91 hi hz0 hz1 hz2 rfl (by decide) (.slice none 0 0) 0 [] rfl (World.ownsRow_nil _ _ _ _) ⟨g1, 0, none⟩ j cv ((cksV st.inn).take (j * 2)) rfl hl1 hN1 hO1 (by unfold maxLen; omega) (by omega) hbase ?_; intro v1 w8 hown1 hgrow1 _ hat1; have R8 := R2.kept hgrow1; have hc8 := R8.innC; have hN3 := hN2 w8 hgrow1)
          | (at_builtin; refine wpList_append_own_at _ rfl _ _ 91 rfl n0 85 i0 (.agg #[.int .i64 0, .int .i64 0]) 2 16 Tryz.underlying91 hi hz0 hz1 hz2 rfl (by decide) v1 _ _ rfl hown1 ad (st.inn.length - (j + 1)) (cv - (j + 1)) ((cksV st.inn).drop ((j + 1) * 2)) rfl hl2 hN3 hO2 (by unfold maxLen; omega) (by omega) (Nat.le_trans hbase hgrow1.size) ?_; intro v2 w9 hown2 hgrow2 _ hat2; obtain ⟨g9, n9⟩ := two_steps hgrow1 hat1 hgrow2 hat2; rw [Nat.zero_add] at hown2; obtain ⟨p2, q2, rfl⟩ := own_shape hown2; have R9 := R2.kept g9; have hc9 := R9.innC; have hf9 := R9.free 1))
        have hr9 := erased_row hjn hown2
        have R10 := R9.setInn (st.inn.eraseIdx j) _ hr9 (fun k hk => by
          have h1 := n9 k hk
          rintro (e | e | e)
          · exact Nat.not_lt_of_le h1 (by rw [e]; exact R2.lt h (.inl rfl))
          · exact Nat.not_lt_of_le h1 (by rw [e]; exact R2.lt gm (.inr (.inl rfl)))
          · exact Nat.not_lt_of_le h1 (R2.lt k (.inr (.inr (.inr e)))))
        have hbh : w.heap.size ≠ h := fun e => Nat.lt_irrefl _ (by have := R.lt h (.inl rfl); rw [← e] at this; exact this)
        have hb9 := (g9.block w.heap.size (Array.getElem?_eq_some_iff.1 hb2).1 (by simp)).trans hb2
        have hb10 := (heap_setCell_other w9 ⟨h, 1, none⟩ _ (.slice p2 (j + (st.inn.length - (j + 1))) q2) hbh).trans hb9
        have hg10 : Gr (ROwn h gm (.slice (some ⟨g1, 0, none⟩) st.inn.length cv) (.slice pg st.gone.length cg)) w (w9.setCell ⟨h, 1, none⟩ (.slice p2 (j + (st.inn.length - (j + 1))) q2)) := (gr_mono2 (Gr.of (gr_trans hg2 g9)) (fun _ e => by cases e)).trans (gr_set _ _ _ _ _ (.inl rfl))
        have hn10 : ∀ k, (Value.slice p2 (j + (st.inn.length - (j + 1))) q2).ownBlock = some k → w.heap.size ≤ k := fun k hk => Nat.le_trans hg2.size (n9 k hk)
        generalize w9.setCell ⟨h, 1, none⟩ (.slice p2 (j + (st.inn.length - (j + 1))) q2) = W10 at *
        clear hc9 hf9 R9 hc8 R8 hc2 hN1 hN2 hN3 hown1 hgrow1 hat1 hown2 hgrow2 hat2 hr9 hl1 hl2 hO1 hO2 E0 E1 E2 E3 had hb9 hb2 hg2 g9 R2
        have R11 : RSl n0 W10.drew h _ _ _ gm := R10.same fun _ _ => rfl
        have hcg : W10.drew.cell? ⟨h, 2, none⟩ = some (.slice pg st.gone.length cg) := R11.goneC
        obtain ⟨b0, b1⟩ := cells2K (show W10.drew.heap[w.heap.size]? = _ from hb10)
        have hcg2 : (W10.alloc (.cells #[.int .i64 u, .int .i64 v] 85)).cell? ⟨h, 2, none⟩ = some (.slice pg st.gone.length cg) := (World.cell?_of_block (w := W10) (Below.heap_alloc _ _ _ (R10.lt h (.inl rfl)))).trans R10.goneC
        have HRow : Hid (W10.drew.ownsRow n0 85 2 (.slice pg st.gone.length cg) st.gone.length (cksV st.gone)) := R11.gone
        have hba : n0 ≤ W10.drew.heap.size := Nat.le_trans hn0 hg10.size
        go_region_law (refine step_append_own_at _ 52 (by rfl) rfl _ _ 91 (by rfl) n0 85 i0 (.agg #[.int .i64 0, .int .i64 0]) 2 16 Tryz.underlying91 hi hz0 hz1 hz2 rfl (by decide) (.slice pg st.gone.length cg) _ _ (by rfl) (HRow.out.alloc _) ⟨_, 0, none⟩ 1 1 [_, _] (by rfl) rfl (cell_two_new _ _ _ _) (by simp [Value.oneCell']) (by unfold maxLen; omega) (by omega) (hbase3 hba) ?_; intro v3 w11 hown3 hgrow3 hat3; obtain ⟨p3, q3, rfl⟩ := own_shape hown3; obtain ⟨k1, k2, R12, hg12, hn12⟩ := R11.appGone u v hown3 hgrow3 hat3)
        all_goals
          go_wp2
          go_ret
          refine ⟨by rw [HM.out]; rfl, .slice p2 (j + (st.inn.length - (j + 1))) q2, .slice p3 (st.gone.length + 1) q3, ?_, ?_, ?_⟩
          · rw [HFS.out]
            exact R12
          · exact hg10.then (gr_drop hg12) (fun k hk hr => by
              rcases hr with e | e | e | e
              · exact .inl e
              · exact .inr (.inl e)
              · exact (Nat.not_lt_of_le (hn10 k e) hk).elim
              · exact .inr (.inr (.inr e)))
          · intro k hr
            rcases hn12 k hr with (e | e | e | e) | e
            · exact .inl (.inl e)
            · exact .inl (.inr (.inl e))
            · exact .inr (hn10 k e)
            · exact .inl (.inr (.inr (.inr e)))
            · exact .inr (Nat.le_trans hg10.size e)
      · have HS : Hid (∀ (i : Nat) (hi : i < st.inn.length), i < j + 1 → st.inn[i] ≠ (x, y)) := fun i hi hij => by
          by_cases e : i = j
          · subst e
            rw [HUV.out]
            intro e2
            cases e2
            exact heq ⟨rfl, rfl⟩
          · exact HJ.out i hi (by omega)
        by_cases hux : u = x
        · subst hux
          have hvy : ¬ v = y := fun e => heq ⟨rfl, e⟩
          have hvb : (v == y) = false := beq_eq_false_iff_ne.2 hvy
          clear heq
          go_wp2
          go_quiet (fail)
          go_wp2
          go_roundw
          case rel => exact ⟨j + 1, by omega, by go_num, HS, ⟨hg.1, hg.2, hg.3, hg.4, hg.5⟩, hb⟩
          case measure => simp [intOf]; omega
        · have hub2 : (u == x) = false := beq_eq_false_iff_ne.2 hux
          clear heq
          go_wp2
          go_quiet (fail)
          go_wp2
          go_roundw
          case rel => exact ⟨j + 1, by omega, by go_num, HS, ⟨hg.1, hg.2, hg.3, hg.4, hg.5⟩, hb⟩
          case measure => simp [intOf]; omega
    · have hnm : ¬ (x, y) ∈ st.inn := fun hm => by
        obtain ⟨i, hi, e⟩ := List.mem_iff_getElem.1 hm
        exact HJ.out i hi (by omega) e
      have HM : Hid (freeErr st (x, y) = 1) := if_neg hnm
      have HF : Hid (freeS st (x, y) = st) := if_neg hnm
      go_wp2
      go_ret
      refine ⟨by rw [HM.out]; rfl, _, _, by rw [HF.out]; exact R1, gr_mono2 (Gr.of hg) (fun _ e => by cases e), fun k hk => .inl hk⟩
end Go.Proofs.YtckjjfkfapfdaaaGreat

namespace Go.Proofs.YtckjjfkfapfdaaaGreat
open Go.RowKit
set_option maxRecDepth 100000

section
variable {n0 h gm : Nat} {w w1 : World} {st : Sb} {vi vg v' : Value} {tmp : Obj}
/-- One more in use. -/
theorem RSl.appInn (R : RSl n0 w h st vi vg gm) (x y : Int) (hown : w1.ownsRow n0 85 2 v' (st.inn.length + 1) (cksV st.inn ++ [.int .i64 x, .int .i64 y])) (hgrow : (w.alloc tmp).grownBy w1 vi.ownBlock) (hat : v'.ownBlock = vi.ownBlock ∨ v'.ownBlock = some (w.alloc tmp).heap.size) :
    w1.cell? ⟨h, 1, none⟩ = some vi ∧ w1.frozen? ⟨h, 1, none⟩ = false ∧ RSl n0 (w1.setCell ⟨h, 1, none⟩ v') h ⟨st.bud, st.inn ++ [(x, y)], st.gone, st.made⟩ v' vg gm ∧ Gr (ROwn h gm vi vg) w (w1.setCell ⟨h, 1, none⟩ v') ∧ (∀ k, ROwn h gm v' vg k → ROwn h gm vi vg k ∨ w.heap.size ≤ k) := by
  have hsa : (w.alloc tmp).heap.size = w.heap.size + 1 := World.size_alloc _ _
  have old : ∀ k, k < w.heap.size → vi.ownBlock ≠ some k → w1.heap[k]? = w.heap[k]? := fun k hk hv => (hgrow.block k (by omega) (fun e => hv e.symm)).trans (Below.heap_alloc _ _ _ hk)
  have lh := R.lt h (.inl rfl)
  have lm := R.lt gm (.inr (.inl rfl))
  have hhead := (old h lh R.ih).trans R.head
  have hmade := (old gm lm R.im).trans R.made
  have hinn : w1.ownsRow n0 85 2 vg st.gone.length (cksV st.gone) := own_same R.gone fun k hk => old k (R.lt k (.inr (.inr (.inr hk)))) (fun e => R.ig k e hk)
  have hv : ∀ k, v'.ownBlock = some k → vi.ownBlock = some k ∨ w.heap.size ≤ k := fun k hk => by
    rcases hat with e | e
    · exact .inl (by rw [← e]; exact hk)
    · rw [e] at hk
      cases hk
      exact .inr (by omega)
  have hne : ∀ k, v'.ownBlock = some k → ¬ (k = h ∨ k = gm ∨ vg.ownBlock = some k) := fun k hk => by
    rcases hv k hk with e | e
    · rintro (rfl | rfl | e2)
      · exact R.ih e
      · exact R.im e
      · exact R.ig k e e2
    · rintro (rfl | rfl | e2)
      · omega
      · omega
      · have := R.lt k (.inr (.inr (.inr e2)))
        omega
  have hvh : v'.ownBlock ≠ some h := fun e => hne h e (.inl rfl)
  have hown2 : w1.ownsRow n0 85 2 v' (st.inn ++ [(x, y)]).length (cksV (st.inn ++ [(x, y)])) := by
    rw [List.length_append, cksV_app]
    exact hown
  refine ⟨by simp [World.cell?, hhead], by simp [World.frozen?, hhead], ?_, ?_, ?_⟩
  · exact { head := (head_set hhead v').1, inn := row_set hown2 hvh, gone := row_set hinn R.gh, made := (heap_setCell_other _ _ _ _ (fun e => R.hm e.symm)).trans hmade, len := R.len, ih := hvh, im := fun e => hne gm e (.inr (.inl rfl)), gh := R.gh, gg := R.gg, ig := fun k hk hg => hne k hk (.inr (.inr hg)), hm := R.hm, h0 := R.h0, m0 := R.m0 }
  · refine ⟨hgrow.1, hgrow.2, hgrow.3, ?_, fun k hk hr => ?_⟩
    · have := hgrow.4
      rw [World.size_setCell]
      omega
    · rw [heap_setCell_other _ _ _ _ (fun e => hr (.inl e))]
      exact old k hk (fun e => hr (.inr (.inr (.inl e))))
  · rintro k (e | e | e | e)
    · exact .inl (.inl e)
    · exact .inl (.inr (.inl e))
    · exact (hv k e).elim (fun e => .inl (.inr (.inr (.inl e)))) .inr
    · exact .inl (.inr (.inr (.inr e)))
theorem madeV_set (l : List Nat) (k y : Nat) : (madeV l).setIfInBounds k (.int .i64 (y : Int)) = madeV (l.set k y) := by
  unfold madeV
  rw [List.setIfInBounds_toArray, List.map_set]
theorem RSl.madeAt (R : RSl n0 w h st vi vg gm) (k : Nat) (hk : k < 6) : w.cell? ⟨gm, k, none⟩ = some (.int .i64 ((st.made.getD k 0 : Nat) : Int)) ∧ w.frozen? ⟨gm, k, none⟩ = false := by
  have hl := R.len
  refine ⟨?_, frozen_of_row w gm k _ _ R.made⟩
  rw [cell_of_row w gm k _ _ _ R.made]
  simp [madeV, List.getD, List.getElem?_eq_getElem (show k < st.made.length by omega)]
theorem RSl.setMade (R : RSl n0 w h st vi vg gm) (k y : Nat) : RSl n0 (w.setCell ⟨gm, k, none⟩ (.int .i64 (y : Int))) h ⟨st.bud, st.inn, st.gone, st.made.set k y⟩ vi vg gm :=
  { R with
    head := (heap_setCell_other _ _ _ _ R.hm).trans R.head
    inn := row_set R.inn R.im
    gone := row_set R.gone R.gg
    made := by rw [heap_setCell_same w gm k _ _ _ R.made, madeV_set]
    len := by rw [List.length_set]; exact R.len }
end
theorem next_none {st : Sb} {k : Nat} (h : ∀ c ∈ st.gone, c.1 ≠ (k : Int)) : nextS st k = ((k : Int), ((st.made.getD k 0 : Nat) : Int)) ∧ ¬ nextS st k ∈ st.gone := by
  rcases next_cases st k with ⟨h1, h2⟩ | ⟨_, h2⟩
  · exact (h _ h1 h2).elim
  · exact ⟨h2, fun hm => h _ hm (next_cls st k)⟩
theorem next_last {st : Sb} {k m : Nat} (hm : m < st.gone.length) (h1 : st.gone[m].1 = (k : Int)) (h2 : ∀ (i : Nat) (hi : i < st.gone.length), m < i → st.gone[i].1 ≠ (k : Int)) : nextS st k = st.gone[m] := by
  have e : st.gone = st.gone.take m ++ [st.gone[m]] ++ st.gone.drop (m + 1) := by
    rw [List.append_assoc, List.singleton_append, ← List.drop_eq_getElem_cons hm, List.take_append_drop]
  have hd : (st.gone.drop (m + 1)).filter (fun c => decide (c.1 = (k : Int))) = [] := by
    rw [List.filter_eq_nil_iff]
    intro c hc
    obtain ⟨i, hi, rfl⟩ := List.mem_iff_getElem.1 hc
    rw [List.getElem_drop]
    have hl : m + 1 + i < st.gone.length := by rw [List.length_drop] at hi; omega
    simpa using h2 (m + 1 + i) hl (by omega)
  unfold nextS
  have hf : st.gone.filter (fun c => decide (c.1 = (k : Int))) = (st.gone.take m).filter (fun c => decide (c.1 = (k : Int))) ++ [st.gone[m]] := by
    conv => lhs; rw [e]
    rw [List.filter_append, List.filter_append, hd, List.append_nil]
    have : [st.gone[m]].filter (fun c => decide (c.1 = (k : Int))) = [st.gone[m]] := by simp [h1]
    rw [this]
  rw [hf]
  simp
theorem make_row6 (w : World) : (Instr.makeSlice 92 (.int .i64 6) (.int .i64 6)).run Tryz.prog w = .ok (.slice (some ⟨w.heap.size, 0, none⟩) 6 6) (w.alloc (.cells (madeV [0, 0, 0, 0, 0, 0]) 3)) := by kernel_rfl
set_option maxHeartbeats 1000000 in
theorem rnew07_any (bud : Int) (n0 : Nat) (w : World) (hn : n0 ≤ w.heap.size) : Calls Tryz.prog 35 #[.int .i64 bud] w fun e w' => ∃ h gm, e = .returned (.pointer (some ⟨h, 0, none⟩)) ∧ RSl n0 w' h (freshS bud) (.slice none 0 0) (.slice none 0 0) gm ∧ (∀ k, ROwn h gm (.slice none 0 0) (.slice none 0 0) k → w.heap.size ≤ k) ∧ w.grownBy w' none := by
  have hmk := make_row6
  generalize hR : madeV [0, 0, 0, 0, 0, 0] = M at *
  have HR := hide hR
  clear hR
  go_enter Tryz.func35, Tryz.ntmps35
  go_wp2
  go_ret
  refine ⟨w.heap.size + 1, w.heap.size, rfl, ?_, ?_, gr_trans (World.grownBy_alloc _ _ _) (World.grownBy_alloc _ _ _)⟩
  · exact { head := heap_alloc2_new w _ _, inn := World.ownsRow_nil _ _ _ _, gone := World.ownsRow_nil _ _ _ _, made := by rw [show (freshS bud).made = [0, 0, 0, 0, 0, 0] from rfl, HR.out]; exact heap_alloc2_old w _ _, len := rfl, ih := by simp [Value.ownBlock], im := by simp [Value.ownBlock], gh := by simp [Value.ownBlock], gg := by simp [Value.ownBlock], ig := fun k hk => by simp [Value.ownBlock] at hk, hm := by omega, h0 := by omega, m0 := hn }
  · rintro k (rfl | rfl | e | e)
    · omega
    · omega
    · simp [Value.ownBlock] at e
    · simp [Value.ownBlock] at e
set_option maxHeartbeats 2000000 in
theorem rfits_any {n0 h gm : Nat} {w : World} {st : Sb} {vi vg : Value} (R : RSl n0 w h st vi vg gm) (hs : Small st 9000) (hbud : I64 st.bud) (size less : Int) (hl : I64 less) : Calls Tryz.prog 94 #[.pointer (some ⟨h, 0, none⟩), .int .i64 size, .int .i64 less] w fun e w' => e = .returned (.bool (fitsS st size less)) ∧ ∃ d, w' = w.drewN d := by
  have hub := used_bound hs
  have hbl := bytes_le (clsOf size)
  have hbn := bytes_nonneg (clsOf size)
  have hbc := R.budC
  have HU := hide (rused_any R (small_mono hs (by decide)))
  have HF : Hid (fitsS st size less = decide (size ≤ 2048 ∧ 0 ≤ less ∧ less ≤ usedS st ∧ usedS st - less + bytesC (clsOf size) ≤ st.bud)) := rfl
  have HE : Hid (clsErr size = if size ≤ 2048 then 0 else 4) := rfl
  obtain ⟨c, hc⟩ : ∃ c, clsOf size = c := ⟨_, rfl⟩
  obtain ⟨er, her⟩ : ∃ e, clsErr size = e := ⟨_, rfl⟩
  rw [hc] at HF hbl hbn
  obtain ⟨n, hn⟩ : ∃ n, usedS st = n := ⟨_, rfl⟩
  obtain ⟨m, hm⟩ : ∃ m, bytesC (c : Int) = m := ⟨_, rfl⟩
  rw [hn] at HU HF hub
  rw [hm] at HF hbl hbn
  rw [her] at HE
  have HC := hide hc
  have HR := hide her
  have HM := hide hm
  clear hc her hm hn
  obtain ⟨hb1, hb2⟩ := hbud
  obtain ⟨hl1, hl2⟩ := hl
  by_cases h1 : size ≤ 2048
  · have he := HE.out
    rw [if_pos h1] at he
    subst he
    clear HE
    by_cases h2 : 0 ≤ less
    · by_cases h3 : less ≤ n
      · have HQ : Hid (fitsS st size less = decide (n - less + m ≤ st.bud)) := by
          show fitsS st size less = _
          rw [HF.out]
          exact decide_eq_decide.2 ⟨fun x => x.2.2.2, fun x => ⟨h1, h2, h3, x⟩⟩
        clear HF h1
        go_enter Tryz.func94, Tryz.ntmps94
        go_wp2_with (first
          | (go_at_call 62; refine (rclass_any size _).mono ?_; rintro e w1 ⟨he, rfl⟩; rw [HC.out, HR.out] at he; subst he)
          | (go_at_call 16; refine HU.out.mono ?_; rintro e w2 ⟨rfl, rfl⟩))
        go_quiet ((go_at_call 44; refine Calls.quiet_of_same ((rbytes_any (c : Int) _).mono fun e w' h => ⟨by rw [h.1, HM.out], h.2.symm⟩)))
        go_wp2
        go_ret
        exact ⟨by rw [HQ.out]; rfl, nq, rfl⟩
      · have HQ : Hid (fitsS st size less = false) := by
          show fitsS st size less = _
          rw [HF.out]
          exact decide_eq_false fun x => h3 x.2.2.1
        have h3n : decide (less ≤ n) = false := decide_eq_false h3
        clear HF h1 h3
        go_enter Tryz.func94, Tryz.ntmps94
        go_wp2_with (first
          | (go_at_call 62; refine (rclass_any size _).mono ?_; rintro e w1 ⟨he, rfl⟩; rw [HC.out, HR.out] at he; subst he)
          | (go_at_call 16; refine HU.out.mono ?_; rintro e w2 ⟨rfl, rfl⟩))
        go_quiet ((go_at_call 44; refine Calls.quiet_of_same ((rbytes_any (c : Int) _).mono fun e w' h => ⟨by rw [h.1, HM.out], h.2.symm⟩)))
        go_wp2
        go_ret
        exact ⟨by rw [HQ.out]; rfl, nq, rfl⟩
    · have HQ : Hid (fitsS st size less = false) := by
        show fitsS st size less = _
        rw [HF.out]
        exact decide_eq_false fun x => h2 x.2.1
      have h2n : decide (0 ≤ less) = false := decide_eq_false h2
      clear HF h1 h2
      go_enter Tryz.func94, Tryz.ntmps94
      go_wp2_with (first
        | (go_at_call 62; refine (rclass_any size _).mono ?_; rintro e w1 ⟨he, rfl⟩; rw [HC.out, HR.out] at he; subst he)
        | (go_at_call 16; refine HU.out.mono ?_; rintro e w2 ⟨rfl, rfl⟩))
      go_quiet ((go_at_call 44; refine Calls.quiet_of_same ((rbytes_any (c : Int) _).mono fun e w' h => ⟨by rw [h.1, HM.out], h.2.symm⟩)))
      go_wp2
      go_ret
      exact ⟨by rw [HQ.out]; rfl, nq, rfl⟩
  · have he := HE.out
    rw [if_neg h1] at he
    subst he
    have HQ : Hid (fitsS st size less = false) := by
      show fitsS st size less = _
      rw [HF.out]
      exact decide_eq_false fun x => h1 x.1
    clear HF HE h1
    go_enter Tryz.func94, Tryz.ntmps94
    go_wp2_with (first
      | (go_at_call 62; refine (rclass_any size _).mono ?_; rintro e w1 ⟨he, rfl⟩; rw [HC.out, HR.out] at he; subst he)
      | (go_at_call 16; refine HU.out.mono ?_; rintro e w2 ⟨rfl, rfl⟩))
    go_quiet ((go_at_call 44; refine Calls.quiet_of_same ((rbytes_any (c : Int) _).mono fun e w' h => ⟨by rw [h.1, HM.out], h.2.symm⟩)))
    go_wp2
    go_ret
    exact ⟨by rw [HQ.out]; rfl, nq, rfl⟩
end Go.Proofs.YtckjjfkfapfdaaaGreat

namespace Go.Proofs.YtckjjfkfapfdaaaGreat
open Go.RowKit
set_option maxRecDepth 100000

/-- The chunk in the result's block, and the number. -/
theorem take_ret {W : World} {r : Nat} {x y e : Value} {tmps : Array Value} {Post : Ending → World → Prop} (hb : W.heap[r]? = some (.cells #[x, y] 85 (0, 0))) (h4 : tmps.getD 4 undef = .pointer (some ⟨r, 0, none⟩)) (h5 : tmps.getD 5 undef = e)
    (h : Post (.returned (.tuple #[.agg #[x, y], e])) W) : bodyPost Tryz.prog Tryz.f66 Post .ret { tmps := tmps, defers := [] } W := by
  have hl := run_loadVar_row (P := Tryz.prog) W r _ 85 _ _ _ hb Tryz.underlying85 rfl (by kernel_rfl)
  have hr : (results Tryz.f66 tmps).run Tryz.prog W = .ok (.tuple #[.agg #[x, y], e]) W := by
    rw [results_cell_tmp rfl, h4, h5]
    simp only [asAddr, Sem.run_pure, Result.andThen_ok, hl]
  exact bodyPost_ret hr rfl h
theorem box_set {W : World} {r : Nat} {a b : Value} {t : TypeId} (hb : W.heap[r]? = some (.cells #[a, b] t (0, 0))) (x y : Value) : ((W.setCell ⟨r, 0, none⟩ x).setCell ⟨r, 1, none⟩ y).heap[r]? = some (.cells #[x, y] t (0, 0)) :=
  heap_setCell_same _ r 1 #[x, b] t y (heap_setCell_same W r 0 #[a, b] t x hb)
theorem box_other {W : World} {r k : Nat} {x y : Value} (h : k ≠ r) : ((W.setCell ⟨r, 0, none⟩ x).setCell ⟨r, 1, none⟩ y).heap[k]? = W.heap[k]? :=
  (heap_setCell_other _ _ _ _ h).trans (heap_setCell_other _ _ _ _ h)
theorem gr_box {F : Nat → Prop} {w W : World} {r : Nat} {x y : Value} (hg : Gr F w W) (hr : w.heap.size ≤ r) : Gr F w ((W.setCell ⟨r, 0, none⟩ x).setCell ⟨r, 1, none⟩ y) :=
  ⟨hg.os, hg.tape, hg.output, by rw [World.size_setCell, World.size_setCell]; exact hg.size, fun k hk hf => (box_other (by omega)).trans (hg.block k hk hf)⟩

set_option maxRecDepth 100000 in
set_option maxHeartbeats 4000000 in
theorem rtake_any {n0 h gm : Nat} {w : World} {st : Sb} {vi vg : Value} (R : RSl n0 w h st vi vg gm) (hG : GoodS st) (hs : Small st 9000) (hbud : I64 st.bud) (hn0 : n0 ≤ w.heap.size) (size : Int) :
    Calls Tryz.prog 66 #[.pointer (some ⟨h, 0, none⟩), .int .i64 size] w fun e w' => e = .returned (.tuple #[ckV (takeCk st size), .int .i64 (takeErr st size)]) ∧ ∃ vi' vg', RSl n0 w' h (takeS st size) vi' vg' gm ∧ Gr (ROwn h gm vi vg) w w' ∧ (∀ k, ROwn h gm vi' vg' k → ROwn h gm vi vg k ∨ w.heap.size ≤ k) := by
  have hub := used_bound hs
  have hbl := bytes_le (clsOf size)
  have hbn := bytes_nonneg (clsOf size)
  have hc6 := cls_lt size
  have hg0 := World.grownBy_alloc w (.cells #[.int .i64 0, .int .i64 0] 85) none
  have R0 := R.kept hg0
  have hb0 := heap_alloc_new w (.cells #[.int .i64 0, .int .i64 0] 85)
  have HTE : Hid (takeErr st size = if size ≤ 2048 then (if usedS st + bytesC (clsOf size) ≤ st.bud then 0 else 5) else 4) := rfl
  have HER : Hid (clsErr size = if size ≤ 2048 then 0 else 4) := rfl
  have HU := hide (fun (W : World) (RW : RSl n0 W h st vi vg gm) => rused_any RW (small_mono hs (by decide)))
  obtain ⟨c, hc⟩ : ∃ c, clsOf size = c := ⟨_, rfl⟩
  obtain ⟨n, hn⟩ : ∃ n, usedS st = n := ⟨_, rfl⟩
  obtain ⟨m, hm⟩ : ∃ m, bytesC (c : Int) = m := ⟨_, rfl⟩
  rw [hc] at HTE hbl hbn hc6
  rw [hn] at HTE hub HU
  rw [hm] at HTE hbl hbn
  have HC := hide hc
  have HM := hide hm
  clear hc hm hn
  obtain ⟨hb1, hb2⟩ := hbud
  by_cases h1 : size ≤ 2048
  · have he : clsErr size = 0 := by rw [HER.out, if_pos h1]
    have HE := hide he
    have ht := HTE.out
    rw [if_pos h1] at ht
    clear he HER HTE
    by_cases h2 : n + m ≤ st.bud
    · have hte : takeErr st size = 0 := by rw [ht, if_pos h2]
      have hck : takeCk st size = nextS st c := by unfold takeCk; rw [if_pos hte, HC.out]
      have hst : takeS st size = addC st c (nextS st c) := by unfold takeS; rw [if_pos hte, HC.out]
      have HT := hide hte
      have HK := hide hck
      have HS := hide hst
      clear hte hck hst ht h1
      have hbc := R0.budC
      have hni := hs.inn
      have hng := hs.gone
      obtain ⟨pv, cv, rfl⟩ := own_shape R.inn
      obtain ⟨pg, cg, rfl⟩ := own_shape R.gone
      obtain ⟨i0, hi, hz0, hz1, hz2⟩ := info_parts info_chunk
      have hmd : st.made.getD c 0 ≤ 9000 := by
        have hl := R.len
        have hc : c < st.made.length := by omega
        simp only [List.getD, List.getElem?_eq_getElem hc, Option.getD_some]
        exact hs.made _ (List.getElem_mem hc)
      generalize hW : w.alloc (.cells #[.int .i64 0, .int .i64 0] 85) = W at *
      have HU2 : ∀ k : Nat, Calls Tryz.prog 16 #[.pointer (some ⟨h, 0, none⟩)] (W.drewN k) fun e w' => e = .returned (.int .i64 n) ∧ w' = W.drewN k := fun k => (HU.out (W.drewN k) (R0.same fun _ _ => rfl)).mono fun e w' h => ⟨h.1, h.2.symm⟩
      have HB2 : ∀ k : Nat, Calls Tryz.prog 44 #[.int .i64 (c : Int)] (W.drewN k) fun e w' => e = .returned (.int .i64 m) ∧ w' = W.drewN k := fun k => (rbytes_any (c : Int) (W.drewN k)).mono fun e w' h => ⟨by rw [h.1, HM.out], h.2.symm⟩
      go_enter Tryz.func66, Tryz.ntmps66
      go_wp2_with (go_at_call 62; refine (rclass_any size _).mono ?_; rintro e w1 ⟨he, rfl⟩; rw [HC.out, HE.out] at he; subst he)
      go_quiet ((first
        | (go_at_call 16; exact Calls.quiet_of_same (HU2 _))
        | (go_at_call 44; exact Calls.quiet_of_same (HB2 _))))
      have R2 : RSl n0 (W.drewN nq) h st (.slice pv st.inn.length cv) (.slice pg st.gone.length cg) gm := R0.same fun _ _ => rfl
      have hb2 : (W.drewN nq).heap[w.heap.size]? = some (.cells #[.int .i64 0, .int .i64 0] 85) := hb0
      have hg2 : w.grownBy (W.drewN nq) none := ⟨hg0.1, hg0.2, hg0.3, hg0.4, hg0.5⟩
      generalize W.drewN nq = W2 at *
      clear HU2 HB2 HU hbc R0 hb0 hg0 hW hub hbl hbn hb1
      have hmc := R2.madeC
      obtain ⟨hm1, hm2⟩ := R2.madeAt c hc6
      obtain ⟨md, hmd2⟩ : ∃ md, st.made.getD c 0 = md := ⟨_, rfl⟩
      rw [hmd2] at hmd hm1
      have HMD := hide hmd2
      clear hmd2
      have hci : (c : Int) < 6 := by omega
      have R3 := R2.kept (World.grownBy_alloc W2 (.cells #[.int .i64 c, .int .i64 md] 85) none)
      have hb3 := (Below.heap_alloc W2 (.cells #[.int .i64 c, .int .i64 md] 85) _ (Array.getElem?_eq_some_iff.1 hb2).1).trans hb2
      have hx3 := heap_alloc_new W2 (.cells #[.int .i64 c, .int .i64 md] 85)
      have hg3 := gr_trans hg2 (World.grownBy_alloc W2 (.cells #[.int .i64 c, .int .i64 md] 85) none)
      have hlt3 : w.heap.size < W2.heap.size := (Array.getElem?_eq_some_iff.1 hb2).1
      generalize hW3 : W2.alloc (.cells #[.int .i64 c, .int .i64 md] 85) = W3 at *
      have hgc := R3.goneC
      go_wp2
      clear h2 hW3
      go_loop [9, 10] (fun a i => ∃ j : Nat, j ≤ st.gone.length ∧ i = .int .i64 j ∧ ((a = .int .i64 (-1) ∧ Hid (∀ (i : Nat) (hi : i < st.gone.length), i < j → st.gone[i].1 ≠ (c : Int))) ∨ ∃ m : Nat, a = .int .i64 m ∧ Hid (m < j ∧ ∃ hm : m < st.gone.length, st.gone[m].1 = (c : Int) ∧ ∀ (i : Nat) (hi : i < st.gone.length), m < i → i < j → st.gone[i].1 ≠ (c : Int)))) (fun _ i => st.gone.length - (intOf i).toNat)
      case atStart => exact ⟨0, Nat.zero_le _, rfl, .inl ⟨rfl, fun i _ hi => (Nat.not_lt_zero _ hi).elim⟩⟩
      case round =>
        obtain ⟨j, hj, rfl, hA⟩ := hrel
        by_cases hjn : j < st.gone.length
        · obtain ⟨g1, cg3, e4⟩ := own_form R.gone (by omega)
          cases e4
          obtain ⟨⟨u, v⟩, huv⟩ : ∃ c, st.gone[j] = c := ⟨_, rfl⟩
          obtain ⟨c0, c1⟩ := chunk_cells R3.gone j hjn
          rw [huv] at c0 c1
          have HUV := hide huv
          clear huv
          have HA := hide hA
          clear hA
          by_cases hux : u = (c : Int)
          · have hub2 : (u == (c : Int)) = true := beq_iff_eq.2 hux
            have HS2 : Hid (j < j + 1 ∧ ∃ hm : j < st.gone.length, st.gone[j].1 = (c : Int) ∧ ∀ (i : Nat) (hi : i < st.gone.length), j < i → i < j + 1 → st.gone[i].1 ≠ (c : Int)) := ⟨Nat.lt_succ_self _, hjn, by rw [HUV.out]; exact hux, fun i hi h1 h2 => by omega⟩
            clear hux
            go_wp2
            go_round
            case rel => exact ⟨j + 1, by omega, by go_num, .inr ⟨j, rfl, HS2⟩⟩
            case measure => simp [intOf]; omega
          · have hub2 : (u == (c : Int)) = false := beq_eq_false_iff_ne.2 hux
            have HUX := hide hux
            clear hux
            go_wp2
            go_round
            case rel =>
              refine ⟨j + 1, by omega, by go_num, ?_⟩
              rcases HA.out with ⟨e1, e2⟩ | ⟨m, e1, e2, e3, e5, e6⟩
              · refine .inl ⟨e1, fun i hi h1 => ?_⟩
                by_cases e : i = j
                · subst e
                  rw [HUV.out]
                  exact HUX.out
                · exact e2.out i hi (by omega)
              · refine .inr ⟨m, e1, by omega, e3, e5, fun i hi h1 h2 => ?_⟩
                by_cases e : i = j
                · subst e
                  rw [HUV.out]
                  exact HUX.out
                · exact e6 i hi h1 (by omega)
            case measure => simp [intOf]; omega
        · obtain rfl : j = st.gone.length := by omega
          clear hj hjn hm1 hm2 hmc
          obtain ⟨a, rfl, hA2⟩ : ∃ a : Int, u9 = .int .i64 a ∧ ((a = -1 ∧ Hid (∀ (i : Nat) (hi : i < st.gone.length), i < st.gone.length → st.gone[i].1 ≠ (c : Int))) ∨ ∃ m : Nat, a = (m : Int) ∧ Hid (m < st.gone.length ∧ ∃ hm : m < st.gone.length, st.gone[m].1 = (c : Int) ∧ ∀ (i : Nat) (hi : i < st.gone.length), m < i → i < st.gone.length → st.gone[i].1 ≠ (c : Int))) := by
            rcases hA with ⟨e, hh⟩ | ⟨m, e, hh⟩
            · exact ⟨-1, e, .inl ⟨rfl, hh⟩⟩
            · exact ⟨m, e, .inr ⟨m, rfl, hh⟩⟩
          clear hA
          go_upto_if 62 with fail
          go_cut [11] from 61 to 98 (fun _rest wx => ∃ (vg' : Value) (x y : Int) (gone' : List Ck) (made' : List Nat), RSl n0 wx h ⟨st.bud, st.inn, gone', made'⟩ (.slice pv st.inn.length cv) vg' gm ∧ wx.heap[W2.heap.size]? = some (.cells #[.int .i64 x, .int .i64 y] 85) ∧ wx.heap[w.heap.size]? = some (.cells #[.int .i64 0, .int .i64 0] 85) ∧
            Hid (nextS st c = (x, y) ∧ addC st c (x, y) = ⟨st.bud, st.inn ++ [(x, y)], gone', made'⟩) ∧ Gr (ROwn h gm (.slice pv st.inn.length cv) (.slice pg st.gone.length cg)) w wx ∧ (∀ k, vg'.ownBlock = some k → (Value.slice pg st.gone.length cg).ownBlock = some k ∨ w.heap.size ≤ k) ∧ ∀ k, ROwn h gm (.slice pv st.inn.length cv) vg' k → k ≠ W2.heap.size ∧ k ≠ w.heap.size)
          case first =>
            rcases hA2 with ⟨rfl, HA⟩ | ⟨m, rfl, HA⟩
            · have hno : ∀ d ∈ st.gone, d.1 ≠ (c : Int) := fun d hd => by
                obtain ⟨i, hi, rfl⟩ := List.mem_iff_getElem.1 hd
                exact HA.out i hi hi
              obtain ⟨hx1, hx2⟩ := next_none hno
              rw [hx1, HMD.out] at hx2
              rw [HMD.out] at hx1
              have HN : Hid (nextS st c = ((c : Int), (md : Int)) ∧ addC st c ((c : Int), (md : Int)) = ⟨st.bud, st.inn ++ [((c : Int), (md : Int))], st.gone, st.made.set c (md + 1)⟩) := ⟨hx1, by unfold addC; rw [if_neg hx2, HMD.out]⟩
              clear hno hx1 hx2 HA
              have hmc := R3.madeC
              obtain ⟨hm1, hm2⟩ := R3.madeAt c hc6
              rw [HMD.out] at hm1
              have R4 := R3.setMade c (md + 1)
              have hgl := R2.lt gm (.inr (.inl rfl))
              have hb4 := (heap_setCell_other W3 ⟨gm, c, none⟩ w.heap.size (.int .i64 ((md + 1 : Nat) : Int)) (Nat.ne_of_gt (R.lt gm (.inr (.inl rfl))))).trans hb3
              have hx4 := (heap_setCell_other W3 ⟨gm, c, none⟩ W2.heap.size (.int .i64 ((md + 1 : Nat) : Int)) (Nat.ne_of_gt hgl)).trans hx3
              have hg4 : Gr (ROwn h gm (.slice pv st.inn.length cv) (.slice pg st.gone.length cg)) w (W3.setCell ⟨gm, c, none⟩ (.int .i64 ((md + 1 : Nat) : Int))) := (gr_mono2 (Gr.of hg3) (fun _ e => by cases e)).trans (gr_set _ _ _ _ _ (.inr (.inl rfl)))
              have E2 : ((md + 1 : Nat) : Int) = (md : Int) + 1 := by omega
              rw [E2] at R4 hb4 hx4 hg4
              clear E2
              have K1 := hide R4
              have K2 := hide hb4
              have K3 := hide hx4
              have K4 := hide hg4
              clear R4 hb4 hx4 hg4
              go_wp2_with fail
              go_meet
              exact ⟨_, _, _, _, _, K1.out, K3.out, K2.out, HN, K4.out, fun k hk => .inl hk, fun k hk => ⟨Nat.ne_of_lt (R2.lt k hk), Nat.ne_of_lt (R.lt k hk)⟩⟩
            · obtain ⟨_, hm, e5, e6⟩ := HA.out
              clear HA
              have hnl := next_last hm e5 (fun i hi h1 => e6 i hi h1 hi)
              obtain ⟨⟨x, y⟩, hxy⟩ : ∃ c, st.gone[m] = c := ⟨_, rfl⟩
              have hmem : (x, y) ∈ st.gone := by rw [← hxy]; exact List.getElem_mem hm
              have hera : st.gone.erase (x, y) = st.gone.eraseIdx m := by rw [← hxy]; exact erase_idx (List.nodup_append.1 hG.nodup).2.1 m hm
              rw [hxy] at hnl
              have HN : Hid (nextS st c = (x, y) ∧ addC st c (x, y) = ⟨st.bud, st.inn ++ [(x, y)], st.gone.eraseIdx m, st.made⟩) := ⟨hnl, by unfold addC; rw [if_pos hmem, hera]⟩
              have HXY := hide hxy
              clear hnl hmem hera hxy e5 e6
              obtain ⟨g1, cg3, e4⟩ := own_form R.gone (by omega)
              cases e4
              obtain ⟨c0, c1⟩ := chunk_cells R3.gone m hm
              rw [HXY.out] at c0 c1
              obtain ⟨x0, x1⟩ := cells2K hx3
              have x2 : W3.frozen? ⟨W2.heap.size, 0, none⟩ = false := frozen_of_row _ _ _ _ _ hx3
              have x3 : W3.frozen? ⟨W2.heap.size, 1, none⟩ = false := frozen_of_row _ _ _ _ _ hx3
              have hbig : ∀ k, ROwn h gm (.slice pv st.inn.length cv) (.slice (some ⟨g1, 0, none⟩) st.gone.length cg) k → k ≠ W2.heap.size := fun k hk => Nat.ne_of_lt (R2.lt k hk)
              have R4 : RSl n0 ((W3.setCell ⟨W2.heap.size, 0, none⟩ (.int .i64 x)).setCell ⟨W2.heap.size, 1, none⟩ (.int .i64 y)) h st (.slice pv st.inn.length cv) (.slice (some ⟨g1, 0, none⟩) st.gone.length cg) gm := R3.same fun k hk => box_other (hbig k hk)
              have hx4 := box_set hx3 (.int .i64 x) (.int .i64 y)
              have hb4 := (box_other (W := W3) (x := .int .i64 x) (y := .int .i64 y) (Nat.ne_of_lt hlt3)).trans hb3
              have hg4 : Gr (fun _ => False) w ((W3.setCell ⟨W2.heap.size, 0, none⟩ (.int .i64 x)).setCell ⟨W2.heap.size, 1, none⟩ (.int .i64 y)) := gr_box (gr_mono2 (Gr.of hg3) (fun _ e => by cases e)) (Nat.le_of_lt hlt3)
              generalize hW4 : (W3.setCell ⟨W2.heap.size, 0, none⟩ (.int .i64 x)).setCell ⟨W2.heap.size, 1, none⟩ (.int .i64 y) = W4 at *
              have hc4 := R4.goneC
              have hcv := own_cap R4.gone
              have hN1 := take_news R4.gone m hm
              obtain ⟨ad, had, hN2⟩ := tail_news R4.gone m hm
              have hl1 : ((cksV st.gone).take (m * 2)).length = m * 2 := by rw [List.length_take, cksV_len]; omega
              have hl2 : ((cksV st.gone).drop ((m + 1) * 2)).length = (st.gone.length - (m + 1)) * 2 := by rw [List.length_drop, cksV_len]; omega
              have hO1 : ∀ u ∈ (cksV st.gone).take (m * 2), u.oneCell' = true := fun u hu => cksV_one _ u (List.mem_of_mem_take hu)
              have hO2 : ∀ u ∈ (cksV st.gone).drop ((m + 1) * 2), u.oneCell' = true := fun u hu => cksV_one _ u (List.mem_of_mem_drop hu)
              have E0 : IntKind.i64.wrap ((m : Int) + 1) = (m : Int) + 1 := by
                simp [IntKind.wrap, IntKind.bits, IntKind.signed]
                omega
              have E1 : (0 : Int) ≤ (m : Int) + 1 := by omega
              have E2 : (m : Int) + 1 ≤ (st.gone.length : Int) := by omega
              have E3 : ((m : Int) + 1).toNat = m + 1 := by omega
              have hkc : m ≤ cg := by omega
              have hk1 : m + 1 ≤ st.gone.length := hm
              have hbase : n0 ≤ W4.heap.size := Nat.le_trans hn0 hg4.size
              go_wp2_with (first
                | (at_builtin; refine wpList_append_own_at _ rfl _ _ 91 rfl n0 85 i0 (.agg #[.int .i64 0, .int .i64 0]) 2 16 Tryz.underlying91 hi hz0 hz1 hz2 rfl (by decide) (.slice none 0 0) 0 [] rfl (World.ownsRow_nil _ _ _ _) ⟨g1, 0, none⟩ m cg ((cksV st.gone).take (m * 2)) rfl hl1 hN1 hO1 (by unfold maxLen; omega) (by omega) hbase ?_; intro v1 w8 hown1 hgrow1 _ hat1; have R8 := R4.kept hgrow1; have hc8 := R8.goneC; have hN3 := hN2 w8 hgrow1)
                | (at_builtin; refine wpList_append_own_at _ rfl _ _ 91 rfl n0 85 i0 (.agg #[.int .i64 0, .int .i64 0]) 2 16 Tryz.underlying91 hi hz0 hz1 hz2 rfl (by decide) v1 _ _ rfl hown1 ad (st.gone.length - (m + 1)) (cg - (m + 1)) ((cksV st.gone).drop ((m + 1) * 2)) rfl hl2 hN3 hO2 (by unfold maxLen; omega) (by omega) (Nat.le_trans hbase hgrow1.size) ?_; intro v2 w9 hown2 hgrow2 _ hat2; obtain ⟨g9, n9⟩ := two_steps hgrow1 hat1 hgrow2 hat2; rw [Nat.zero_add] at hown2; obtain ⟨p2, q2, rfl⟩ := own_shape hown2; have R9 := R4.kept g9; have hc9 := R9.goneC; have hf9 := R9.free 2))
              have R10 := R9.setGone (st.gone.eraseIdx m) _ (erased_row hm hown2) (fun k hk => by
                have h1 := n9 k hk
                rintro (e | e | e)
                · exact Nat.not_lt_of_le h1 (by rw [e]; exact R4.lt h (.inl rfl))
                · exact Nat.not_lt_of_le h1 (by rw [e]; exact R4.lt gm (.inr (.inl rfl)))
                · exact Nat.not_lt_of_le h1 (R4.lt k (.inr (.inr (.inl e)))))
              have lx := (Array.getElem?_eq_some_iff.1 hx4).1
              have lb := (Array.getElem?_eq_some_iff.1 hb4).1
              have hx9 := (g9.block W2.heap.size lx (by simp)).trans hx4
              have hb9 := (g9.block w.heap.size lb (by simp)).trans hb4
              have nx : W2.heap.size ≠ h := fun e => hbig h (.inl rfl) e.symm
              have nb : w.heap.size ≠ h := fun e => Nat.lt_irrefl _ (by have := R.lt h (.inl rfl); rw [← e] at this; exact this)
              have hx10 := (heap_setCell_other w9 ⟨h, 2, none⟩ _ (.slice p2 (m + (st.gone.length - (m + 1))) q2) nx).trans hx9
              have hb10 := (heap_setCell_other w9 ⟨h, 2, none⟩ _ (.slice p2 (m + (st.gone.length - (m + 1))) q2) nb).trans hb9
              have hg10 : Gr (ROwn h gm (.slice pv st.inn.length cv) (.slice (some ⟨g1, 0, none⟩) st.gone.length cg)) w (w9.setCell ⟨h, 2, none⟩ (.slice p2 (m + (st.gone.length - (m + 1))) q2)) := ((gr_mono2 hg4 (fun _ e => e.elim)).trans (gr_mono2 (Gr.of g9) (fun _ e => by cases e))).trans (gr_set _ _ _ _ _ (.inl rfl))
              go_meet
              refine ⟨_, _, _, _, _, R10, hx10, hb10, HN, hg10, fun k hk => .inr (Nat.le_trans hg4.size (n9 k hk)), ?_⟩
              rintro k (e | e | e | e)
              · exact ⟨by rw [e]; exact nx.symm, by rw [e]; exact nb.symm⟩
              · exact ⟨hbig k (.inr (.inl e)), Nat.ne_of_lt (R.lt k (.inr (.inl e)))⟩
              · exact ⟨hbig k (.inr (.inr (.inl e))), Nat.ne_of_lt (R.lt k (.inr (.inr (.inl e))))⟩
              · have := n9 k e
                exact ⟨by omega, by omega⟩
          case rest =>
            obtain ⟨vg', x, y, gone', made', R5, hx5, hb5, HN, hg5, hv5, hd5⟩ := hcut
            clear R3 hb3 hx3 hg3 hgc hA2
            have R6 : RSl n0 wc.drew h ⟨st.bud, st.inn, gone', made'⟩ (.slice pv st.inn.length cv) vg' gm := R5.same fun _ _ => rfl
            have hic : wc.drew.cell? ⟨h, 1, none⟩ = some (.slice pv st.inn.length cv) := R6.innC
            have hic2 : (wc.alloc (.cells #[.int .i64 x, .int .i64 y] 85)).cell? ⟨h, 1, none⟩ = some (.slice pv st.inn.length cv) := (World.cell?_of_block (w := wc) (Below.heap_alloc _ _ _ (R5.lt h (.inl rfl)))).trans R5.innC
            obtain ⟨b0, b1⟩ := cells2K (show wc.drew.heap[W2.heap.size]? = _ from hx5)
            have HRow : Hid (wc.drew.ownsRow n0 85 2 (.slice pv st.inn.length cv) st.inn.length (cksV st.inn)) := R6.inn
            have hba : n0 ≤ wc.drew.heap.size := Nat.le_trans hn0 hg5.size
            go_upto_region 19 with fail
            go_region_law (refine step_append_own_at _ 106 (by rfl) rfl _ _ 91 (by rfl) n0 85 i0 (.agg #[.int .i64 0, .int .i64 0]) 2 16 Tryz.underlying91 hi hz0 hz1 hz2 rfl (by decide) (.slice pv st.inn.length cv) _ _ (by rfl) (HRow.out.alloc _) ⟨_, 0, none⟩ 1 1 [_, _] (by rfl) rfl (cell_two_new _ _ _ _) (by simp [Value.oneCell']) (by unfold maxLen; omega) (by omega) (hbase3 hba) ?_; intro v3 w11 hown3 hgrow3 hat3; obtain ⟨p3, q3, rfl⟩ := own_shape hown3; obtain ⟨k1, k2, R12, hg12, hn12⟩ := R6.appInn x y hown3 hgrow3 hat3)
            all_goals
              have hx12 := (hg12.block W2.heap.size (Array.getElem?_eq_some_iff.1 hx5).1 (fun hr => (hd5 _ hr).1 rfl)).trans hx5
              have hb12 := (hg12.block w.heap.size (Array.getElem?_eq_some_iff.1 hb5).1 (fun hr => (hd5 _ hr).2 rfl)).trans hb5
              have hl5 := (Array.getElem?_eq_some_iff.1 hb5).1
              generalize w11.setCell ⟨h, 1, none⟩ (.slice p3 (st.inn.length + 1) q3) = WW at *
              obtain ⟨y0, y1⟩ := cells2K hx12
              obtain ⟨r0, r1⟩ := cells2K hb12
              have r2 : WW.frozen? ⟨w.heap.size, 0, none⟩ = false := frozen_of_row _ _ _ _ _ hb12
              have r3 : WW.frozen? ⟨w.heap.size, 1, none⟩ = false := frozen_of_row _ _ _ _ _ hb12
              go_wp2
              refine take_ret (box_set hb12 _ _) rfl rfl ⟨by rw [HK.out, HN.out.1, HT.out]; rfl, .slice p3 (st.inn.length + 1) q3, vg', ?_, ?_, ?_⟩
              · rw [HS.out, HN.out.1, HN.out.2]
                exact R12.same fun k hk => box_other (fun e => by
                  rcases hn12 k hk with hr | hr
                  · exact (hd5 k hr).2 e
                  · rw [e] at hr
                    exact Nat.not_lt_of_le hr hl5)
              · exact gr_box (hg5.then (gr_drop hg12) (fun k hk hr => by
                  rcases hr with e | e | e | e
                  · exact .inl e
                  · exact .inr (.inl e)
                  · exact .inr (.inr (.inl e))
                  · exact (hv5 k e).elim (fun e => .inr (.inr (.inr e))) (fun e => (Nat.not_lt_of_le e hk).elim))) (Nat.le_refl _)
              · intro k hr
                rcases hn12 k hr with (e | e | e | e) | e
                · exact .inl (.inl e)
                · exact .inl (.inr (.inl e))
                · exact .inl (.inr (.inr (.inl e)))
                · exact (hv5 k e).elim (fun e => .inl (.inr (.inr (.inr e)))) .inr
                · exact .inr (Nat.le_trans hg5.size e)
    · have hte : takeErr st size = 5 := by rw [ht, if_neg h2]
      have hck : takeCk st size = (0, 0) := by unfold takeCk; rw [if_neg (by rw [hte]; decide)]
      have hst : takeS st size = st := take_not (by rw [hte]; decide)
      have HT := hide hte
      have HK := hide hck
      have HS := hide hst
      clear hte hck hst ht h1
      have hbc := R0.budC
      generalize hW : w.alloc (.cells #[.int .i64 0, .int .i64 0] 85) = W at *
      have HU2 : ∀ k : Nat, Calls Tryz.prog 16 #[.pointer (some ⟨h, 0, none⟩)] (W.drewN k) fun e w' => e = .returned (.int .i64 n) ∧ w' = W.drewN k := fun k => (HU.out (W.drewN k) (R0.same fun _ _ => rfl)).mono fun e w' h => ⟨h.1, h.2.symm⟩
      have HB2 : ∀ k : Nat, Calls Tryz.prog 44 #[.int .i64 (c : Int)] (W.drewN k) fun e w' => e = .returned (.int .i64 m) ∧ w' = W.drewN k := fun k => (rbytes_any (c : Int) (W.drewN k)).mono fun e w' h => ⟨by rw [h.1, HM.out], h.2.symm⟩
      go_enter Tryz.func66, Tryz.ntmps66
      go_wp2_with (go_at_call 62; refine (rclass_any size _).mono ?_; rintro e w1 ⟨he, rfl⟩; rw [HC.out, HE.out] at he; subst he)
      go_quiet ((first
        | (go_at_call 16; exact Calls.quiet_of_same (HU2 _))
        | (go_at_call 44; exact Calls.quiet_of_same (HB2 _))))
      obtain ⟨q0, q1⟩ := cells2K (show (W.drewN nq).heap[w.heap.size]? = _ from hb0)
      have q2 : (W.drewN nq).frozen? ⟨w.heap.size, 0, none⟩ = false := frozen_of_row _ _ _ _ _ (show (W.drewN nq).heap[w.heap.size]? = _ from hb0)
      have q3 : (W.drewN nq).frozen? ⟨w.heap.size, 1, none⟩ = false := frozen_of_row _ _ _ _ _ (show (W.drewN nq).heap[w.heap.size]? = _ from hb0)
      have R2 : RSl n0 (W.drewN nq) h st vi vg gm := R0.same fun _ _ => rfl
      have hb2 : (W.drewN nq).heap[w.heap.size]? = some (.cells #[.int .i64 0, .int .i64 0] 85) := hb0
      have hg2 : Gr (ROwn h gm vi vg) w (W.drewN nq) := gr_mono2 (Gr.of (show w.grownBy (W.drewN nq) none from ⟨hg0.1, hg0.2, hg0.3, hg0.4, hg0.5⟩)) (fun _ e => by cases e)
      generalize W.drewN nq = W2 at *
      go_wp2
      refine take_ret (box_set hb2 _ _) rfl rfl ⟨by rw [HK.out, HT.out]; rfl, vi, vg, ?_, gr_box hg2 (Nat.le_refl _), fun k hk => .inl hk⟩
      rw [HS.out]
      exact R2.same fun k hk => box_other (Nat.ne_of_lt (R.lt k hk))
  · have he : clsErr size = 4 := by rw [HER.out, if_neg h1]
    have hte : takeErr st size = 4 := by rw [HTE.out, if_neg h1]
    have hck : takeCk st size = (0, 0) := by unfold takeCk; rw [if_neg (by rw [hte]; decide)]
    have hst : takeS st size = st := take_not (by rw [hte]; decide)
    have HE := hide he
    have HT := hide hte
    have HK := hide hck
    have HS := hide hst
    clear he hte hck hst h1 HER HTE
    have hg2 : Gr (ROwn h gm vi vg) w (w.alloc (.cells #[.int .i64 0, .int .i64 0] 85)) := gr_mono2 (Gr.of hg0) (fun _ e => by cases e)
    go_enter Tryz.func66, Tryz.ntmps66
    go_wp2_with (go_at_call 62; refine (rclass_any size _).mono ?_; rintro e w1 ⟨he, rfl⟩; rw [HC.out, HE.out] at he; subst he)
    refine take_ret hb0 rfl rfl ⟨by rw [HK.out, HT.out]; rfl, vi, vg, ?_, hg2, fun k hk => .inl hk⟩
    rw [HS.out]
    exact R0
end Go.Proofs.YtckjjfkfapfdaaaGreat
