/- What a Store leaves: the budget, what is in use, what was dropped. Over lists alone. Conditions: none. -/
import Derived.Test.YtckjjfkfapfdaaaGreatShardM
namespace Go.Proofs.YtckjjfkfapfdaaaGreat
open Go.RowKit

def hasD (key : ByteArray) (l : List ByteArray) : Bool := l.any fun x => decide (x = key)
def cntD (key : ByteArray) (l : List ByteArray) : Nat := (l.filter fun x => decide (x = key)).length
theorem hasD_next {l : List ByteArray} {j : Nat} {x : ByteArray} (h : l[j]? = some x) (key : ByteArray) : hasD key (l.take (j + 1)) = (hasD key (l.take j) || decide (x = key)) := by
  unfold hasD
  rw [List.take_add_one, h, List.any_append]
  simp
theorem cntD_next {l : List ByteArray} {j : Nat} {x : ByteArray} (h : l[j]? = some x) (key : ByteArray) : (x = key → cntD key (l.take (j + 1)) = cntD key (l.take j) + 1) ∧ (x ≠ key → cntD key (l.take (j + 1)) = cntD key (l.take j)) := by
  unfold cntD
  rw [List.take_add_one, h, List.filter_append, List.length_append]
  constructor
  · intro e
    simp [e]
  · intro e
    simp [e]
theorem cntD_le (key : ByteArray) (l : List ByteArray) : cntD key l ≤ l.length := List.length_filter_le _ _
theorem look_list (h : Hs) (k : ByteArray) (en : En) : (lookH h k en).drops = h.drops ∨ (lookH h k en).drops = h.drops ++ [k] := by
  unfold lookH
  split
  · exact .inl rfl
  · rename_i e hf
    split
    · exact .inl rfl
    · rw [drop_found hf]
      exact .inr rfl
/-- What a Store leaves. -/
theorem store_leaves {n : Nat} {st : Hs} (g : GoodH n st) (hd : st.drops = []) (sd : Nat) (i : Iv) (en : En) :
    (storeH sd st i en).2.slab.bud = st.slab.bud ∧ ((storeH sd st i en).1 = 0 → ∃ c, (i, c) ∈ (storeH sd st i en).2.ents) ∧ cntD i.key (storeH sd st i en).2.drops ≤ 1 := by
  unfold storeH
  by_cases hsz : 2048 < sizeI i
  · rw [if_pos hsz]
    exact ⟨rfl, fun h => absurd (show (4 : Int) = 0 from h) (by decide), by show cntD i.key st.drops ≤ 1; rw [hd]; exact Nat.zero_le _⟩
  · rw [if_neg hsz]
    have gl := goodH_look g i.key en
    obtain ⟨rm, _, r8⟩ := room_good sd i (livingH st i.key en) en _ _ rfl gl
    obtain ⟨l, hl, hne⟩ := rm.drops
    have hbud : (roomH sd i (livingH st i.key en) en (lookH st i.key en)).2.slab.bud = st.slab.bud := rm.bud.trans look_drops.2.1
    have hcnt : cntD i.key (roomH sd i (livingH st i.key en) en (lookH st i.key en)).2.drops ≤ 1 := by
      rw [hl]
      have h0 : l.filter (fun x => decide (x = i.key)) = [] := by
        rw [List.filter_eq_nil_iff]
        intro x hx
        simpa using hne x hx
      unfold cntD
      rw [List.filter_append, h0, List.append_nil]
      rcases look_list st i.key en with e | e
      · rw [e, hd]
        exact Nat.zero_le _
      · rw [e, hd]
        exact List.length_filter_le _ _
    by_cases h0 : (roomH sd i (livingH st i.key en) en (lookH st i.key en)).1 = 0
    · rw [if_pos h0]
      refine ⟨?_, fun _ => ⟨_, mem_putE.2 (.inl rfl)⟩, hcnt⟩
      show (takeS (freedH _ _) _).bud = _
      rw [take_bud]
      unfold freedH
      split
      · exact hbud
      · exact (free_bud _ _).trans hbud
    · rw [if_neg h0]
      exact ⟨hbud, fun h => absurd h h0, hcnt⟩
theorem used_le {n : Nat} {st : Hs} (g : GoodH n st) (hb : 0 ≤ st.slab.bud) : usedS st.slab ≤ st.slab.bud ∧ 0 ≤ usedS st.slab := by
  refine ⟨?_, (used_bound g.small).1⟩
  rcases g.slabG.bud with h | h
  · have : usedS st.slab = 0 := by unfold usedS; rw [h]; rfl
    omega
  · exact h
end Go.Proofs.YtckjjfkfapfdaaaGreat
