/- What an Update leaves, over lists alone. Conditions: none. -/
import Derived.Test.YtckjjfkfapfdaaaGreatShardM
namespace Go.Proofs.YtckjjfkfapfdaaaGreat
open Go.RowKit

theorem putE_map {E : List Ent} (hr : RisingE E) {e : Ent} {i : Iv} (he : e ∈ E) (hk : e.1.key = i.key) (c : Ck) : putE (i, c) E = E.map fun x => if x.1.key = i.key then (i, c) else x := by
  have hkey : ∀ x : Ent, (if x.1.key = i.key then ((i, c) : Ent) else x).1.key = x.1.key := fun x => by
    split
    · rename_i h
      exact h.symm
    · rfl
  refine risingE_ext (risingE_put hr) ?_ fun x => ?_
  · unfold RisingE
    rw [List.pairwise_map]
    refine List.Pairwise.imp ?_ hr
    intro a b hab
    rw [hkey, hkey]
    exact hab
  · rw [mem_putE, List.mem_map]
    constructor
    · rintro (rfl | ⟨h1, h2⟩)
      · exact ⟨e, he, if_pos hk⟩
      · exact ⟨x, h1, if_neg h2⟩
    · rintro ⟨y, hy, hx⟩
      by_cases h : y.1.key = i.key
      · rw [if_pos h] at hx
        exact .inl hx.symm
      · rw [if_neg h] at hx
        subst hx
        exact .inr ⟨hy, h⟩
/-- What stands at each place behind an Update. -/
theorem upd_at {n : Nat} {st : Hs} (g : GoodH n st) (i : Iv) : usedS (updH st i).slab = usedS st.slab ∧ (updH st i).ents.length = st.ents.length ∧
    ∀ (j : Nat) (e : Ent), st.ents[j]? = some e → ∃ e' : Ent, (updH st i).ents[j]? = some e' ∧ e'.1.key = e.1.key ∧ (updErr st i = 0 → e.1.key = i.key → e'.1 = i) ∧ (updErr st i ≠ 0 → e'.1 = e.1) ∧ (e.1.key ≠ i.key → e'.1 = e.1) ∧ (e.1.key = i.key → (updErr st i = 0 ↔ e.1.val.length = i.val.length)) := by
  cases hf : findE i.key st.ents with
  | none =>
    have e1 : updH st i = st := by unfold updH; rw [hf]
    have e2 : updErr st i = 6 := by unfold updErr; rw [hf]
    rw [e1, e2]
    refine ⟨rfl, rfl, fun j e he => ⟨e, he, rfl, fun h => absurd h (by decide), fun _ => rfl, fun _ => rfl, fun hk => ?_⟩⟩
    exact absurd hk (findE_none.1 hf e (List.mem_of_getElem? he))
  | some e0 =>
    obtain ⟨hm, hk0⟩ := findE_some hf
    have huniq : ∀ (j : Nat) (e : Ent), st.ents[j]? = some e → e.1.key = i.key → e = e0 := fun j e he hk => rising_key g.rise (List.mem_of_getElem? he) hm (hk.trans hk0.symm)
    by_cases hl : i.val.length = e0.1.val.length
    · have e1 : updH st i = ⟨putE (i, e0.2) st.ents, st.slab, st.ord, st.jd, st.drops⟩ := by unfold updH; rw [hf]; exact if_pos hl
      have e2 : updErr st i = 0 := by unfold updErr; rw [hf]; exact if_pos hl
      rw [e1, e2]
      refine ⟨rfl, ?_, fun j e he => ?_⟩
      · show (putE (i, e0.2) st.ents).length = _
        rw [putE_map g.rise hm hk0, List.length_map]
      · show ∃ e' : Ent, (putE (i, e0.2) st.ents)[j]? = some e' ∧ _
        rw [putE_map g.rise hm hk0, List.getElem?_map, he]
        refine ⟨_, rfl, ?_, fun _ hk => ?_, fun h => absurd rfl h, fun hk => ?_, fun hk => ?_⟩
        · dsimp only
          split
          · rename_i h
            exact h.symm
          · rfl
        · dsimp only
          rw [if_pos hk]
        · dsimp only
          rw [if_neg hk]
        · rw [huniq j e he hk, hl]
          exact ⟨fun _ => rfl, fun _ => rfl⟩
    · have e1 : updH st i = st := by unfold updH; rw [hf]; exact if_neg hl
      have e2 : updErr st i = 1 := by unfold updErr; rw [hf]; exact if_neg hl
      rw [e1, e2]
      refine ⟨rfl, rfl, fun j e he => ⟨e, he, rfl, fun h => absurd h (by decide), fun _ => rfl, fun _ => rfl, fun hk => ?_⟩⟩
      rw [huniq j e he hk]
      exact ⟨fun h => absurd h (by decide), fun h => absurd h.symm hl⟩
end Go.Proofs.YtckjjfkfapfdaaaGreat
