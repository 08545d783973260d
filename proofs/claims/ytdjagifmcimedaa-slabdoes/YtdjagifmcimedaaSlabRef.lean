/- What the document's own slab answers: Used, Has, New. Conditions: at most 10000 chunks in each list. -/
import Derived.Test.YtdjagifmcimedaaSlabRefC
import Derived.Test.YtdjagifmcimedaaChRow
import Derived.BigQuiet
namespace Go.Proofs.Ytdjagifmcimedaa
open Go.RowKit

/-- How many of each class were made, as cells. -/
def madeV (l : List Nat) : Array Value := (l.map fun m : Nat => Value.int .i64 (m : Int)).toArray
/-- The document's slab at block h. -/
structure RSl (n0 : Nat) (w : World) (h : Nat) (st : Sb) (vi vg : Value) (gm : Nat) : Prop where
  head : w.heap[h]? = some (.cells #[.int .i64 st.bud, vi, vg, .slice (some ⟨gm, 0, none⟩) 6 6] 53 (0, 0))
  inn : w.ownsRow n0 35 2 vi st.inn.length (cksV st.inn)
  gone : w.ownsRow n0 35 2 vg st.gone.length (cksV st.gone)
  made : w.heap[gm]? = some (.cells (madeV st.made) 3 (0, 0))
  len : st.made.length = 6
  ih : vi.ownBlock ≠ some h
  im : vi.ownBlock ≠ some gm
  gh : vg.ownBlock ≠ some h
  gg : vg.ownBlock ≠ some gm
  ig : ∀ k, vi.ownBlock = some k → vg.ownBlock ≠ some k
  hm : h ≠ gm
  h0 : n0 ≤ h
  m0 : n0 ≤ gm
/-- Its blocks. -/
def ROwn (h gm : Nat) (vi vg : Value) : Nat → Prop := fun k => k = h ∨ k = gm ∨ vi.ownBlock = some k ∨ vg.ownBlock = some k
section
variable {n0 h gm : Nat} {w w' : World} {st : Sb} {vi vg : Value}
theorem RSl.same (R : RSl n0 w h st vi vg gm) (hs : ∀ k, ROwn h gm vi vg k → w'.heap[k]? = w.heap[k]?) : RSl n0 w' h st vi vg gm :=
  { R with
    head := (hs h (.inl rfl)).trans R.head
    inn := own_same R.inn fun k hk => hs k (.inr (.inr (.inl hk)))
    gone := own_same R.gone fun k hk => hs k (.inr (.inr (.inr hk)))
    made := (hs gm (.inr (.inl rfl))).trans R.made }
theorem RSl.lt (R : RSl n0 w h st vi vg gm) : ∀ k, ROwn h gm vi vg k → k < w.heap.size := by
  rintro k (rfl | rfl | hk | hk)
  · exact (Array.getElem?_eq_some_iff.1 R.head).1
  · exact (Array.getElem?_eq_some_iff.1 R.made).1
  · exact (R.inn.lt k hk).2
  · exact (R.gone.lt k hk).2
theorem RSl.from0 (R : RSl n0 w h st vi vg gm) : ∀ k, ROwn h gm vi vg k → n0 ≤ k := by
  rintro k (rfl | rfl | hk | hk)
  · exact R.h0
  · exact R.m0
  · exact (R.inn.lt k hk).1
  · exact (R.gone.lt k hk).1
theorem RSl.kept (R : RSl n0 w h st vi vg gm) (hg : w.grownBy w' none) : RSl n0 w' h st vi vg gm := R.same fun k hk => hg.block k (R.lt k hk) (by simp)
theorem RSl.budC (R : RSl n0 w h st vi vg gm) : w.cell? ⟨h, 0, none⟩ = some (.int .i64 st.bud) := by simp [World.cell?, R.head]
theorem RSl.innC (R : RSl n0 w h st vi vg gm) : w.cell? ⟨h, 1, none⟩ = some vi := by simp [World.cell?, R.head]
theorem RSl.goneC (R : RSl n0 w h st vi vg gm) : w.cell? ⟨h, 2, none⟩ = some vg := by simp [World.cell?, R.head]
theorem RSl.madeC (R : RSl n0 w h st vi vg gm) : w.cell? ⟨h, 3, none⟩ = some (.slice (some ⟨gm, 0, none⟩) 6 6) := by simp [World.cell?, R.head]
theorem RSl.free (R : RSl n0 w h st vi vg gm) (j : Nat) : w.frozen? ⟨h, j, none⟩ = false := by simp [World.frozen?, R.head]
end

set_option maxHeartbeats 1000000 in
theorem rused_any {n0 h gm : Nat} {w : World} {st : Sb} {vi vg : Value} (R : RSl n0 w h st vi vg gm) (hs : Small st 10000) : Calls Try.prog 24 #[.pointer (some ⟨h, 0, none⟩)] w fun e w' => e = .returned (.int .i64 (usedS st)) ∧ w = w' := by
  have hc1 := R.innC
  have hn := hs.inn
  obtain ⟨pv, cv, rfl⟩ := own_shape R.inn
  have HU : Hid (usedS st = sumB st.inn) := rfl
  go_enter Try.func24, Try.ntmps24
  go_wp2
  go_loop [3, 4] (fun m i => ∃ j : Nat, j ≤ st.inn.length ∧ i = .int .i64 j ∧ m = .int .i64 (sumB (st.inn.take j))) (fun _ i => st.inn.length - (intOf i).toNat)
  case atStart => exact ⟨0, Nat.zero_le _, rfl, rfl⟩
  case round =>
    obtain ⟨j, hj, rfl, rfl⟩ := hrel
    by_cases hjn : j < st.inn.length
    · obtain ⟨g1, cv3, e4⟩ := own_form R.inn (by omega)
      cases e4
      obtain ⟨⟨u, v⟩, huv⟩ : ∃ c, st.inn[j] = c := ⟨_, rfl⟩
      obtain ⟨c0, c1⟩ := chunk_cells R.inn j hjn
      rw [huv] at c0 c1
      have hS : sumB (st.inn.take (j + 1)) = sumB (st.inn.take j) + bytesC u := by
        rw [List.take_succ_eq_append_getElem hjn, sumB_app, huv, sumB_one]
      have l1 := sumB_nonneg (st.inn.take j)
      have l2 := sumB_le (st.inn.take j)
      have l3 : (st.inn.take j).length ≤ j := by rw [List.length_take]; omega
      have l4 := bytes_nonneg u
      have l5 := bytes_le u
      obtain ⟨bu, hbu⟩ : ∃ m, bytesC u = m := ⟨_, rfl⟩
      rw [hbu] at hS l4 l5
      have HBU := hide hbu
      have HSS := hide hS
      generalize sumB (st.inn.take j) = sm at *
      have hw : wrap64 (sm + bu) = sm + bu := by unfold wrap64; omega
      clear hbu hS huv
      go_wp2_with (go_at_call 12; refine (rbytes_any u _).mono ?_; rintro e w8 ⟨he, rfl⟩; rw [HBU.out] at he; subst he)
      go_round
      case rel => exact ⟨j + 1, by omega, by go_num, by rw [HSS.out]⟩
      case measure => simp [intOf]; omega
    · obtain rfl : j = st.inn.length := by omega
      rw [List.take_length]
      go_wp2
      go_ret
      exact ⟨by rw [HU.out]; rfl, rfl⟩
set_option maxHeartbeats 2000000 in
theorem rhas_any {n0 h gm : Nat} {w : World} {st : Sb} {vi vg : Value} (R : RSl n0 w h st vi vg gm) (hs : Small st 10000) (x y : Int) : Calls Try.prog 20 #[.pointer (some ⟨h, 0, none⟩), .agg #[.int .i64 x, .int .i64 y]] w fun e w' => e = .returned (.bool (decide ((x, y) ∈ st.inn))) ∧ w.grownBy w' none := by
  have hn := hs.inn
  obtain ⟨pv, cv, rfl⟩ := own_shape R.inn
  have hg0 := World.grownBy_alloc w (.cells #[.int .i64 x, .int .i64 y] 35) none
  have hbx := heap_alloc_new w (.cells #[.int .i64 x, .int .i64 y] 35)
  go_enter Try.func20, Try.ntmps20
  go_wp2
  go_loopw [5] (fun i wr => ∃ j : Nat, j ≤ st.inn.length ∧ i = .int .i64 j ∧ Hid (∀ (i : Nat) (hi : i < st.inn.length), i < j → st.inn[i] ≠ (x, y)) ∧ w.grownBy wr none ∧ wr.heap[w.heap.size]? = some (.cells #[.int .i64 x, .int .i64 y] 35)) (fun i _ => st.inn.length - (intOf i).toNat)
  case atStart => exact ⟨0, Nat.zero_le _, rfl, fun i _ hi => (Nat.not_lt_zero _ hi).elim, hg0, hbx⟩
  case round =>
    clear hg0 hbx
    obtain ⟨j, hj, rfl, HJ, hg, hb⟩ := hrel
    have R1 := R.kept hg
    have hc1 := R1.innC
    obtain ⟨b0, b1⟩ := cells2 hb
    by_cases hjn : j < st.inn.length
    · obtain ⟨g1, cv3, e4⟩ := own_form R.inn (by omega)
      cases e4
      obtain ⟨⟨u, v⟩, huv⟩ : ∃ c, st.inn[j] = c := ⟨_, rfl⟩
      obtain ⟨c0, c1⟩ := chunk_cells R1.inn j hjn
      rw [huv] at c0 c1
      have HUV := hide huv
      clear huv
      by_cases heq : u = x ∧ v = y
      · obtain ⟨rfl, rfl⟩ := heq
        have HM : Hid (decide ((u, v) ∈ st.inn) = true) := decide_eq_true (by rw [← HUV.out]; exact List.getElem_mem hjn)
        go_wp2
        go_quiet (fail)
        go_wp2
        go_ret
        exact ⟨by rw [HM.out]; rfl, ⟨hg.1, hg.2, hg.3, hg.4, hg.5⟩⟩
      · have HS : Hid (∀ (i : Nat) (hi : i < st.inn.length), i < j + 1 → st.inn[i] ≠ (x, y)) := fun i hi hij => by
          by_cases e : i = j
          · subst e
            rw [HUV.out]
            intro e2
            cases e2
            exact heq ⟨rfl, rfl⟩
          · exact HJ.out i hi (by omega)
        by_cases hux : u = x
        · subst hux
          have hvy : ¬ v = y := fun e => heq ⟨rfl, e⟩
          have hvb : (v == y) = false := beq_eq_false_iff_ne.2 hvy
          clear heq
          go_wp2
          go_quiet (fail)
          go_wp2
          go_roundw
          case rel => exact ⟨j + 1, by omega, by go_num, HS, ⟨hg.1, hg.2, hg.3, hg.4, hg.5⟩, hb⟩
          case measure => simp [intOf]; omega
        · have hub2 : (u == x) = false := beq_eq_false_iff_ne.2 hux
          clear heq
          go_wp2
          go_quiet (fail)
          go_wp2
          go_roundw
          case rel => exact ⟨j + 1, by omega, by go_num, HS, ⟨hg.1, hg.2, hg.3, hg.4, hg.5⟩, hb⟩
          case measure => simp [intOf]; omega
    · have HM : Hid (decide ((x, y) ∈ st.inn) = false) := decide_eq_false fun hm => by
        obtain ⟨i, hi, e⟩ := List.mem_iff_getElem.1 hm
        exact HJ.out i hi (by omega) e
      go_wp2
      go_ret
      exact ⟨by rw [HM.out]; rfl, hg⟩
end Go.Proofs.Ytdjagifmcimedaa
