/- The contracts of package slab, all of them. Conditions: none. -/
import Derived.Test.YtdjagifmcimedaaSlabFree
import Derived.Test.YtdjagifmcimedaaSlabTake
namespace Go.Proofs.Ytdjagifmcimedaa
open Go.RowKit Go.Maps

set_option maxHeartbeats 2000000 in
theorem free_any {w : World} {b : Nat} {own : Nat → Prop} {st : Sb} (h : Sl0 w b own st) (hs : Small st 10000) (c : Ck) (hc : CkOk c) :
    Calls Try.prog 17 #[.pointer (some ⟨b, 0, none⟩), ckV c] w fun e w' => e = .returned (.int .i64 (freeErr st c)) ∧ ∃ own', Sl0 w' b own' (freeS st c) ∧ Gr own w w' ∧ Grew w own own' := by
  have hgood : GoodS st := by obtain ⟨_, _, _, _, _, _, _, hg, _⟩ := h; exact hg
  by_cases hin : c ∈ st.inn
  · obtain ⟨h1, h2, _⟩ := hgood.cls c (List.mem_append_left _ hin)
    obtain ⟨c1, c2⟩ := c
    obtain ⟨k, rfl⟩ := Int.eq_ofNat_of_zero_le h1
    unfold freeErr
    rw [if_pos hin]
    exact free_in_any h hs k c2 hc (by simp at h2; omega) hin
  · have e1 : freeErr st c = 1 := by unfold freeErr; rw [if_neg hin]
    have e2 : freeS st c = st := by unfold freeS; rw [if_neg hin]
    rw [e1, e2]
    obtain ⟨bm, D, fs, rfl, h2, h3, h4, h5, h6⟩ := h
    have L0 := (LawF.start h2 h3).box (.cells #[.int .i64 c.1, .int .i64 c.2] 35)
    obtain ⟨d0, d1⟩ := pair_cells L0.q.1
    have HI := hide (decide_eq_false hin)
    unfold ckV
    go_enter Try.func17, Try.ntmps17
    go_wp2_with (go_at_call 19; refine (has_any (Sl0.of L0.right h4 h5 h6) c hc).mono ?_; rintro e w1 ⟨he, hg1⟩; rw [HI.out] at he; subst he; have L1 := L0.step hg1)
    go_ret
    exact ⟨rfl, _, Sl0.of L1.right h4 h5 h6, L1.gr, L1.right.grew⟩
theorem Sl0.kept {w w' : World} {b : Nat} {own : Nat → Prop} {st : Sb} (h : Sl0 w b own st) (hs : ∀ k, own k → w'.heap[k]? = w.heap[k]?) : Sl0 w' b own st := by
  obtain ⟨bm, D, fs, rfl, h2, h3, h4, h5, h6⟩ := h
  refine ⟨bm, D, fs, rfl, (slabP b bm D fs st).on w w' h2 hs, fun k hk => ?_, h4, h5, h6⟩
  have e := hs k hk
  have hlt := h3 k hk
  rw [Array.getElem?_eq_getElem hlt] at e
  exact (Array.getElem?_eq_some_iff.1 e).1
theorem slab_lib : SlabLib Sl0 where
  lt := fun h k hk => by obtain ⟨_, _, _, _, _, h3, _⟩ := h; exact h3 k hk
  good := fun h => by obtain ⟨_, _, _, _, _, _, _, hg, hb⟩ := h; exact ⟨hg, hb⟩
  keep := fun h hs => h.kept hs
  new := fun bud hb w => (new_any bud hb w).mono fun e w' ⟨b, own, h⟩ => ⟨b, own, h⟩
  cls := fun size _ w => (class_any size w).mono fun e w' h => ⟨h.1, by rw [h.2]; exact gr_refl _ _⟩
  bytes := fun k _ w => (bytes_any k w).mono fun e w' h => ⟨h.1, by rw [h.2]; exact gr_refl _ _⟩
  take := fun h hs size _ => take_any h hs size
  free := fun h hs c hc => free_any h hs c hc
  has := fun h _ c hc => (has_any h c hc).mono fun e w' hh => ⟨hh.1, h.kept fun k hk => hh.2.block k (by obtain ⟨_, _, _, _, _, h3, _⟩ := h; exact h3 k hk) (by simp), hh.2⟩
  used := fun h _ => (used_any h).mono fun e w' hh => ⟨hh.1, by rw [hh.2]; exact h, by rw [hh.2]; exact gr_refl _ _⟩
  fits := fun h hs size less _ hl => (fits_any h hs size less hl).mono fun e w' hh => ⟨hh.1, h.kept fun k hk => hh.2.block k (by obtain ⟨_, _, _, _, _, h3, _⟩ := h; exact h3 k hk) (by simp), hh.2⟩
end Go.Proofs.Ytdjagifmcimedaa
