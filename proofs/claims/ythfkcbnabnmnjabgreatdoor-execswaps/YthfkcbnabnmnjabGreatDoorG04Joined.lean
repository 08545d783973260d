/- Slabs over lists of chunks alone: nothing of the program is run here. Conditions: none. Lists of keys in two rows, over lists alone: nothing of the program is run here. Conditions: none. Tables of texts over lists alone: nothing of the program is run here. Conditions: none. -/
import Derived.Test.YthfkcbnabnmnjabGreatDoorG00Joined
namespace Go.Proofs.YthfkcbnabnmnjabGreatDoor

/-- A chunk: its class, its number. -/
abbrev Ck := Int × Int
def bytesC (k : Int) : Int := if k = 0 then 64 else if k = 1 then 128 else if k = 2 then 256 else if k = 3 then 512 else if k = 4 then 1024 else if k = 5 then 2048 else 0
def clsOf (size : Int) : Nat := if size ≤ 64 then 0 else if size ≤ 128 then 1 else if size ≤ 256 then 2 else if size ≤ 512 then 3 else if size ≤ 1024 then 4 else if size ≤ 2048 then 5 else 0
def clsErr (size : Int) : Int := if size ≤ 2048 then 0 else 4
/-- A budget, the chunks in use, those that were let go, how many were made of each class. -/
structure Sb where
  bud : Int
  inn : List Ck
  gone : List Ck
  made : List Nat
def freshS (bud : Int) : Sb := ⟨bud, [], [], [0, 0, 0, 0, 0, 0]⟩
def sumB (l : List Ck) : Int := (l.map fun c => bytesC c.1).sum
def usedS (st : Sb) : Int := sumB st.inn
def nextS (st : Sb) (k : Nat) : Ck := ((st.gone.filter fun c => decide (c.1 = (k : Int))).getLast?).getD ((k : Int), ((st.made.getD k 0 : Nat) : Int))
def takeErr (st : Sb) (size : Int) : Int := if size ≤ 2048 then (if usedS st + bytesC (clsOf size) ≤ st.bud then 0 else 5) else 4
def takeCk (st : Sb) (size : Int) : Ck := if takeErr st size = 0 then nextS st (clsOf size) else (0, 0)
def addC (st : Sb) (k : Nat) (c : Ck) : Sb := if c ∈ st.gone then ⟨st.bud, st.inn ++ [c], st.gone.erase c, st.made⟩ else ⟨st.bud, st.inn ++ [c], st.gone, st.made.set k (st.made.getD k 0 + 1)⟩
def takeS (st : Sb) (size : Int) : Sb := if takeErr st size = 0 then addC st (clsOf size) (nextS st (clsOf size)) else st
def freeErr (st : Sb) (c : Ck) : Int := if c ∈ st.inn then 0 else 1
def freeS (st : Sb) (c : Ck) : Sb := if c ∈ st.inn then ⟨st.bud, st.inn.erase c, st.gone ++ [c], st.made⟩ else st
def fitsS (st : Sb) (size less : Int) : Bool := decide (size ≤ 2048 ∧ 0 ≤ less ∧ less ≤ usedS st ∧ usedS st - less + bytesC (clsOf size) ≤ st.bud)
structure GoodS (st : Sb) : Prop where
  nodup : (st.inn ++ st.gone).Nodup
  len : st.made.length = 6
  cls : ∀ c ∈ st.inn ++ st.gone, 0 ≤ c.1 ∧ c.1 < 6 ∧ 0 ≤ c.2 ∧ c.2 < ((st.made.getD c.1.toNat 0 : Nat) : Int)
  bud : st.inn = [] ∨ usedS st ≤ st.bud
/-- No list of it is longer. -/
structure Small (st : Sb) (n : Nat) : Prop where
  inn : st.inn.length ≤ n
  gone : st.gone.length ≤ n
  made : ∀ m ∈ st.made, m ≤ n

theorem bytes_nonneg (k : Int) : 0 ≤ bytesC k := by
  unfold bytesC
  repeat' split
  all_goals omega
theorem bytes_le (k : Int) : bytesC k ≤ 2048 := by
  unfold bytesC
  repeat' split
  all_goals omega
theorem cls_lt (size : Int) : clsOf size < 6 := by
  unfold clsOf
  repeat' split
  all_goals omega
theorem sumB_app (l m : List Ck) : sumB (l ++ m) = sumB l + sumB m := by simp [sumB]
theorem sumB_cons (c : Ck) (l : List Ck) : sumB (c :: l) = bytesC c.1 + sumB l := by simp [sumB]
theorem sumB_one (c : Ck) : sumB [c] = bytesC c.1 := by simp [sumB]
theorem sumB_nonneg : ∀ l : List Ck, 0 ≤ sumB l
  | [] => by simp [sumB]
  | c :: l => by
    have h1 := sumB_nonneg l
    have h2 := bytes_nonneg c.1
    rw [sumB_cons]
    omega
theorem sumB_le : ∀ l : List Ck, sumB l ≤ 2048 * l.length
  | [] => by simp [sumB]
  | c :: l => by
    have h1 := sumB_le l
    have h2 := bytes_le c.1
    rw [sumB_cons, List.length_cons]
    omega
theorem sumB_erase : ∀ (l : List Ck) (c : Ck), c ∈ l → sumB (l.erase c) = sumB l - bytesC c.1
  | [], c, h => by cases h
  | d :: l, c, h => by
    by_cases e : d = c
    · subst e
      rw [List.erase_cons_head, sumB_cons]
      omega
    · rw [List.erase_cons_tail (by simpa using e), sumB_cons, sumB_cons, sumB_erase l c ((List.mem_cons.1 h).resolve_left fun h => e h.symm)]
      omega
theorem next_cases (st : Sb) (k : Nat) : (nextS st k ∈ st.gone ∧ (nextS st k).1 = (k : Int)) ∨ ((∀ c ∈ st.gone, c.1 ≠ (k : Int)) ∧ nextS st k = ((k : Int), ((st.made.getD k 0 : Nat) : Int))) := by
  unfold nextS
  cases h : (st.gone.filter fun c => decide (c.1 = (k : Int))).getLast? with
  | some c =>
    have := List.mem_of_getLast? h
    rw [List.mem_filter] at this
    exact .inl ⟨this.1, of_decide_eq_true this.2⟩
  | none =>
    rw [List.getLast?_eq_none_iff, List.filter_eq_nil_iff] at h
    exact .inr ⟨fun c hc e => h c hc (decide_eq_true e), rfl⟩
theorem next_cls (st : Sb) (k : Nat) : (nextS st k).1 = (k : Int) := by
  rcases next_cases st k with h | h
  · exact h.2
  · rw [h.2]
/-- A chunk that is taken was not in use. -/
theorem next_new {st : Sb} (h : GoodS st) (k : Nat) : ¬ nextS st k ∈ st.inn := by
  intro hm
  rcases next_cases st k with ⟨hg, _⟩ | ⟨_, e⟩
  · exact (List.nodup_append.1 h.nodup).2.2 _ hm _ hg rfl
  · have := (h.cls _ (List.mem_append_left _ hm)).2.2.2
    rw [e] at this
    simp at this
theorem getD_set_nat (l : List Nat) (i j x : Nat) (h : i < l.length) : (l.set i x).getD j 0 = if i = j then x else l.getD j 0 := by
  simp only [List.getD, List.getElem?_set]
  by_cases e : i = j
  · subst e
    simp [h]
  · simp [e]
theorem good_freshS (bud : Int) : GoodS (freshS bud) := ⟨List.nodup_nil, rfl, fun _ hc => (List.not_mem_nil hc).elim, .inl rfl⟩
theorem erase_perm {l : List Ck} {c : Ck} (h : c ∈ l) : ([c] ++ l.erase c).Perm l := (List.perm_cons_erase h).symm
theorem good_take {st : Sb} (h : GoodS st) (size : Int) : GoodS (takeS st size) := by
  unfold takeS
  by_cases he : takeErr st size = 0
  · rw [if_pos he]
    have hb : usedS st + bytesC (clsOf size) ≤ st.bud := by
      unfold takeErr at he
      split at he
      · split at he
        · assumption
        · omega
      · omega
    have hk := cls_lt size
    have hc1 := next_cls st (clsOf size)
    have hnew := next_new h (clsOf size)
    have hnc := next_cases st (clsOf size)
    generalize nextS st (clsOf size) = c at *
    generalize clsOf size = k at *
    have hused : sumB (st.inn ++ [c]) ≤ st.bud := by
      rw [sumB_app, sumB_one, hc1]
      exact hb
    unfold addC
    by_cases hg : c ∈ st.gone
    · rw [if_pos hg]
      have hp : (st.inn ++ [c] ++ st.gone.erase c).Perm (st.inn ++ st.gone) := by
        rw [List.append_assoc]
        exact List.Perm.append_left _ (erase_perm hg)
      exact ⟨hp.nodup_iff.2 h.nodup, h.len, fun d hd => h.cls d (hp.mem_iff.1 hd), .inr hused⟩
    · rw [if_neg hg]
      obtain ⟨hno, ec⟩ := hnc.resolve_left fun x => hg x.1
      have hfree : ¬ c ∈ st.inn ++ st.gone := fun hm => (List.mem_append.1 hm).elim hnew hg
      refine ⟨?_, by rw [List.length_set]; exact h.len, fun d hd => ?_, .inr hused⟩
      · have hp : (st.inn ++ [c] ++ st.gone).Perm (c :: (st.inn ++ st.gone)) := by
          rw [List.append_assoc]
          exact List.perm_middle
        rw [hp.nodup_iff]
        exact List.nodup_cons.2 ⟨hfree, h.nodup⟩
      · rw [getD_set_nat _ _ _ _ (by rw [h.len]; exact hk)]
        have hd2 : d = c ∨ d ∈ st.inn ++ st.gone := by
          simp only [List.mem_append, List.mem_singleton] at hd ⊢
          rcases hd with (hd | hd) | hd
          · exact .inr (.inl hd)
          · exact .inl hd
          · exact .inr (.inr hd)
        rcases hd2 with rfl | hd2
        · rw [hc1, ec]
          simp
          omega
        · obtain ⟨a1, a2, a3, a4⟩ := h.cls d hd2
          refine ⟨a1, a2, a3, ?_⟩
          by_cases e : k = d.1.toNat
          · rw [if_pos e, e]
            omega
          · rw [if_neg e]
            exact a4
  · rw [if_neg he]
    exact h
theorem good_free {st : Sb} (h : GoodS st) (c : Ck) : GoodS (freeS st c) := by
  unfold freeS
  by_cases hm : c ∈ st.inn
  · rw [if_pos hm]
    have hp : (st.inn.erase c ++ (st.gone ++ [c])).Perm (st.inn ++ st.gone) := by
      refine List.Perm.trans ?_ (List.Perm.append_right st.gone (erase_perm hm))
      rw [← List.append_assoc]
      exact (List.perm_append_comm).trans (by simp)
    refine ⟨hp.nodup_iff.2 h.nodup, h.len, fun d hd => h.cls d (hp.mem_iff.1 hd), ?_⟩
    rcases h.bud with e | e
    · rw [e] at hm
      cases hm
    · refine .inr ?_
      show sumB (st.inn.erase c) ≤ st.bud
      rw [sumB_erase _ _ hm]
      have := bytes_nonneg c.1
      have e2 : usedS st = sumB st.inn := rfl
      omega
  · rw [if_neg hm]
    exact h
theorem used_bound {st : Sb} {n : Nat} (h : Small st n) : 0 ≤ usedS st ∧ usedS st ≤ 2048 * n := by
  have h1 := sumB_nonneg st.inn
  have h2 := sumB_le st.inn
  have h3 := h.inn
  have e : usedS st = sumB st.inn := rfl
  omega
theorem small_fresh (bud : Int) : Small (freshS bud) 0 := ⟨Nat.le_refl _, Nat.le_refl _, fun m hm => by simp [freshS] at hm; omega⟩
theorem small_mono {st : Sb} {n m : Nat} (h : Small st n) (hm : n ≤ m) : Small st m := ⟨Nat.le_trans h.inn hm, Nat.le_trans h.gone hm, fun x hx => Nat.le_trans (h.made x hx) hm⟩
theorem small_take {st : Sb} {n : Nat} (h : Small st n) (size : Int) : Small (takeS st size) (n + 1) := by
  unfold takeS
  split
  · unfold addC
    split
    · refine ⟨by rw [List.length_append]; exact Nat.succ_le_succ h.inn, ?_, fun m hm => Nat.le_succ_of_le (h.made m hm)⟩
      exact Nat.le_succ_of_le (Nat.le_trans (List.length_erase_le) h.gone)
    · refine ⟨by rw [List.length_append]; exact Nat.succ_le_succ h.inn, Nat.le_succ_of_le h.gone, fun m hm => ?_⟩
      rcases List.mem_or_eq_of_mem_set hm with h1 | h1
      · exact Nat.le_succ_of_le (h.made m h1)
      · rw [h1]
        refine Nat.succ_le_succ ?_
        by_cases hk : clsOf size < st.made.length
        · simp only [List.getD, List.getElem?_eq_getElem hk, Option.getD_some]
          exact h.made _ (List.getElem_mem hk)
        · simp [List.getD, List.getElem?_eq_none (Nat.le_of_not_lt hk)]
  · exact small_mono h (Nat.le_succ n)
theorem small_free {st : Sb} {n : Nat} (h : Small st n) (c : Ck) : Small (freeS st c) (n + 1) := by
  unfold freeS
  split
  · exact ⟨Nat.le_succ_of_le (Nat.le_trans (List.length_erase_le) h.inn), by rw [List.length_append]; exact Nat.succ_le_succ h.gone, fun m hm => Nat.le_succ_of_le (h.made m hm)⟩
  · exact small_mono h (Nat.le_succ n)
end Go.Proofs.YthfkcbnabnmnjabGreatDoor

namespace Go.Proofs.YthfkcbnabnmnjabGreatDoor

/-- How many may be protected; the keys on trial, the keys protected. -/
structure Sr where
  most : Int
  trial : List ByteArray
  safe : List ByteArray
def freshR (most : Int) : Sr := ⟨most, [], []⟩
def allR (st : Sr) : List ByteArray := st.trial ++ st.safe
def hasK (l : List ByteArray) (k : ByteArray) : Bool := l.any fun x => decide (x = k)
def without (l : List ByteArray) (k : ByteArray) : List ByteArray := l.filter fun x => decide (x ≠ k)
def addErr (st : Sr) (k : ByteArray) : Int := if hasK (allR st) k then 7 else 0
def addR (st : Sr) (k : ByteArray) : Sr := if hasK (allR st) k then st else ⟨st.most, st.trial ++ [k], st.safe⟩
def remErr (st : Sr) (k : ByteArray) : Int := if hasK (allR st) k then 0 else 6
def remR (st : Sr) (k : ByteArray) : Sr := ⟨st.most, without st.trial k, without st.safe k⟩
/-- If those protected are too many, the first of them goes back on trial. -/
def spill (st : Sr) : Sr := if st.most < st.safe.length then (match st.safe with | [] => st | x :: l => ⟨st.most, st.trial ++ [x], l⟩) else st
def hitR (st : Sr) (k : ByteArray) : Sr := if hasK (allR st) k then spill ⟨st.most, without st.trial k, without st.safe k ++ [k]⟩ else st
/-- The first one that is not this one. -/
def vicR (st : Sr) (k : ByteArray) : Option ByteArray := (allR st).find? fun x => decide (x ≠ k)
structure GoodR (st : Sr) : Prop where
  nodup : (allR st).Nodup
  most : (st.safe.length : Int) ≤ max st.most 0

theorem hasK_iff {l : List ByteArray} {k : ByteArray} : hasK l k = true ↔ k ∈ l := by simp [hasK]
theorem hasK_not {l : List ByteArray} {k : ByteArray} : hasK l k = false ↔ ¬ k ∈ l := by rw [← hasK_iff]; simp
theorem mem_without {l : List ByteArray} {k x : ByteArray} : x ∈ without l k ↔ x ∈ l ∧ x ≠ k := by simp [without]
theorem without_app (l m : List ByteArray) (k : ByteArray) : without (l ++ m) k = without l k ++ without m k := by simp [without]
theorem without_not {l : List ByteArray} {k : ByteArray} (h : ¬ k ∈ l) : without l k = l := by
  unfold without
  rw [List.filter_eq_self]
  intro x hx
  exact decide_eq_true fun e => h (e ▸ hx)
theorem without_sub (l : List ByteArray) (k : ByteArray) : (without l k).Sublist l := List.filter_sublist
theorem without_le (l : List ByteArray) (k : ByteArray) : (without l k).length ≤ l.length := (without_sub l k).length_le
theorem without_lt {l : List ByteArray} {k : ByteArray} (h : k ∈ l) : (without l k).length < l.length := by
  unfold without
  exact List.length_filter_lt_length_iff_exists.2 ⟨k, h, by simp⟩
theorem without_len {l : List ByteArray} {k : ByteArray} (hn : l.Nodup) (h : k ∈ l) : (without l k).length + 1 = l.length := by
  induction l with
  | nil => cases h
  | cons x l ih =>
    rw [List.nodup_cons] at hn
    by_cases e : x = k
    · subst e
      have : without (x :: l) x = without l x := by simp [without]
      rw [this, without_not hn.1, List.length_cons]
    · have : without (x :: l) k = x :: without l k := by simp [without, e]
      have hk : k ∈ l := (List.mem_cons.1 h).resolve_left fun h => e h.symm
      have := ih hn.2 hk
      simp_all
theorem all_rem (st : Sr) (k : ByteArray) : allR (remR st k) = without (allR st) k := (without_app _ _ _).symm
theorem rem_not {st : Sr} {k : ByteArray} (h : ¬ k ∈ allR st) : remR st k = st := by
  unfold remR
  rw [without_not fun h' => h (List.mem_append_left _ h'), without_not fun h' => h (List.mem_append_right _ h')]
theorem goodR_fresh (most : Int) : GoodR (freshR most) := ⟨List.nodup_nil, by simp [freshR]; omega⟩
theorem goodR_add {st : Sr} (h : GoodR st) (k : ByteArray) : GoodR (addR st k) := by
  unfold addR
  split
  · exact h
  · rename_i hk
    rw [hasK_iff] at hk
    refine ⟨?_, h.most⟩
    show (st.trial ++ [k] ++ st.safe).Nodup
    have hp : (st.trial ++ [k] ++ st.safe).Perm (k :: allR st) := by
      rw [List.append_assoc]
      exact List.perm_middle
    exact hp.nodup_iff.2 (List.nodup_cons.2 ⟨hk, h.nodup⟩)
theorem good_rem {st : Sr} (h : GoodR st) (k : ByteArray) : GoodR (remR st k) := by
  refine ⟨?_, ?_⟩
  · rw [all_rem]
    exact (without_sub _ k).nodup h.nodup
  · have := without_le st.safe k
    have h2 := h.most
    show ((without st.safe k).length : Int) ≤ _
    show _ ≤ max st.most 0
    omega
theorem all_spill (st : Sr) : allR (spill st) = allR st := by
  unfold spill
  split
  · split
    · rfl
    · rename_i x l e
      unfold allR
      rw [e]
      simp
  · rfl
theorem all_hit {st : Sr} {k : ByteArray} (h : k ∈ allR st) : allR (hitR st k) = without (allR st) k ++ [k] := by
  unfold hitR
  rw [if_pos (hasK_iff.2 h), all_spill]
  show without st.trial k ++ (without st.safe k ++ [k]) = _
  rw [← List.append_assoc, ← without_app]
  rfl
theorem good_hit {st : Sr} (h : GoodR st) (k : ByteArray) : GoodR (hitR st k) := by
  by_cases hk : k ∈ allR st
  · refine ⟨?_, ?_⟩
    · rw [all_hit hk, List.nodup_append]
      refine ⟨(without_sub _ k).nodup h.nodup, by simp, ?_⟩
      intro a ha b hb e
      rw [List.mem_singleton] at hb
      exact (mem_without.1 ha).2 (e.trans hb)
    · have := without_le st.safe k
      have h2 := h.most
      unfold hitR
      rw [if_pos (hasK_iff.2 hk)]
      unfold spill
      split
      · rename_i hlt
        split
        · rename_i e
          simp at e
        · rename_i x l e
          have hl := congrArg List.length e
          simp at hl hlt ⊢
          omega
      · rename_i hlt
        simp at hlt ⊢
        omega
  · unfold hitR
    rw [if_neg (fun h => hk (hasK_iff.1 h))]
    exact h
theorem lenR_add (st : Sr) (k : ByteArray) : (allR (addR st k)).length ≤ (allR st).length + 1 := by
  unfold addR
  split
  · omega
  · simp [allR]
    omega
theorem len_rem (st : Sr) (k : ByteArray) : (allR (remR st k)).length ≤ (allR st).length := by
  rw [all_rem]
  exact without_le _ _
theorem len_hit {st : Sr} (h : GoodR st) (k : ByteArray) : (allR (hitR st k)).length = (allR st).length := by
  by_cases hk : k ∈ allR st
  · rw [all_hit hk, List.length_append]
    exact without_len h.nodup hk
  · unfold hitR
    rw [if_neg (fun h => hk (hasK_iff.1 h))]
theorem most_add (st : Sr) (k : ByteArray) : (addR st k).most = st.most := by unfold addR; split <;> rfl
theorem most_rem (st : Sr) (k : ByteArray) : (remR st k).most = st.most := rfl
theorem most_spill (st : Sr) : (spill st).most = st.most := by
  unfold spill
  split
  · split <;> rfl
  · rfl
theorem most_hit (st : Sr) (k : ByteArray) : (hitR st k).most = st.most := by
  unfold hitR
  split
  · rw [most_spill]
  · rfl
theorem add_in {st : Sr} {k : ByteArray} (h : k ∈ allR st) : addErr st k = 7 ∧ addR st k = st := by
  unfold addErr addR
  rw [if_pos (hasK_iff.2 h), if_pos (hasK_iff.2 h)]
  exact ⟨rfl, rfl⟩
theorem add_out {st : Sr} {k : ByteArray} (h : ¬ k ∈ allR st) : addErr st k = 0 ∧ addR st k = ⟨st.most, st.trial ++ [k], st.safe⟩ := by
  unfold addErr addR
  rw [if_neg (fun h' => h (hasK_iff.1 h')), if_neg (fun h' => h (hasK_iff.1 h'))]
  exact ⟨rfl, rfl⟩
theorem rem_in {st : Sr} {k : ByteArray} (h : k ∈ allR st) : remErr st k = 0 := by
  unfold remErr
  rw [if_pos (hasK_iff.2 h)]
theorem rem_out {st : Sr} {k : ByteArray} (h : ¬ k ∈ allR st) : remErr st k = 6 ∧ remR st k = st := by
  unfold remErr
  rw [if_neg (fun h' => h (hasK_iff.1 h'))]
  exact ⟨rfl, rem_not h⟩
theorem hit_out {st : Sr} {k : ByteArray} (h : ¬ k ∈ allR st) : hitR st k = st := by
  unfold hitR
  rw [if_neg (fun h' => h (hasK_iff.1 h'))]
end Go.Proofs.YthfkcbnabnmnjabGreatDoor

namespace Go.Proofs.YthfkcbnabnmnjabGreatDoor

/-- Does a text stand ahead of another, byte by byte? -/
def ltB : List UInt8 → List UInt8 → Bool
  | _, [] => false
  | [], _ :: _ => true
  | a :: l, b :: m => if a < b then true else if b < a then false else ltB l m
abbrev Kv := ByteArray × Int
def ltK (a b : ByteArray) : Bool := ltB a.data.toList b.data.toList
theorem ltB_irrefl : ∀ l, ltB l l = false
  | [] => rfl
  | a :: l => by simp [ltB, UInt8.lt_irrefl, ltB_irrefl l]
theorem ltB_trans : ∀ {l m n}, ltB l m = true → ltB m n = true → ltB l n = true
  | _, [], _, h, _ => by cases ‹List UInt8› <;> simp [ltB] at h
  | _, b :: m, [], _, h => by simp [ltB] at h
  | [], b :: m, c :: n, _, _ => by simp [ltB]
  | a :: l, b :: m, c :: n, h1, h2 => by
    unfold ltB at h1 h2 ⊢
    by_cases hab : a < b
    · by_cases hbc : b < c
      · simp [UInt8.lt_trans hab hbc]
      · by_cases hcb : c < b
        · simp [hbc, hcb] at h2
        · have : b = c := UInt8.le_antisymm (UInt8.not_lt.1 hcb) (UInt8.not_lt.1 hbc)
          subst this
          simp [hab]
    · by_cases hba : b < a
      · simp [hab, hba] at h1
      · have : a = b := UInt8.le_antisymm (UInt8.not_lt.1 hba) (UInt8.not_lt.1 hab)
        subst this
        simp [hab] at h1
        by_cases hac : a < c
        · simp [hac]
        · by_cases hca : c < a
          · simp [hac, hca] at h2
          · simp [hac, hca] at h2 ⊢
            exact ltB_trans h1 h2
theorem ltB_total : ∀ {l m}, ltB l m = false → ltB m l = false → l = m
  | [], [], _, _ => rfl
  | [], b :: m, h, _ => by simp [ltB] at h
  | a :: l, [], _, h => by simp [ltB] at h
  | a :: l, b :: m, h1, h2 => by
    unfold ltB at h1 h2
    by_cases hab : a < b
    · simp [hab] at h1
    · by_cases hba : b < a
      · simp [hba] at h2
      · have : a = b := UInt8.le_antisymm (UInt8.not_lt.1 hba) (UInt8.not_lt.1 hab)
        subst this
        simp [hab] at h1 h2
        rw [ltB_total h1 h2]
theorem ltK_irrefl (a : ByteArray) : ltK a a = false := ltB_irrefl _
theorem ltK_trans {a b c : ByteArray} (h1 : ltK a b = true) (h2 : ltK b c = true) : ltK a c = true := ltB_trans h1 h2
theorem ltK_total {a b : ByteArray} (h1 : ltK a b = false) (h2 : ltK b a = false) : a = b := ByteArray.ext (Array.toList_inj.1 (ltB_total h1 h2))
theorem ltK_ne {a b : ByteArray} (h : ltK a b = true) : a ≠ b := fun e => by rw [e, ltK_irrefl] at h; cases h
theorem ltK_asymm {a b : ByteArray} (h : ltK a b = true) : ltK b a = false := by
  cases h2 : ltK b a with
  | false => rfl
  | true => exact absurd (ltK_trans h h2) (by rw [ltK_irrefl]; simp)
/-- Pairs by rising texts. -/
def Rising (l : List Kv) : Prop := l.Pairwise fun a b => ltK a.1 b.1 = true
def putL (k : ByteArray) (v : Int) : List Kv → List Kv
  | [] => [(k, v)]
  | (a, x) :: l => if a = k then (k, v) :: l else if ltK k a then (k, v) :: (a, x) :: l else (a, x) :: putL k v l
def delL (k : ByteArray) (l : List Kv) : List Kv := l.filter fun p => decide (p.1 ≠ k)
def getL (k : ByteArray) (l : List Kv) : Option Int := (l.find? fun p => decide (p.1 = k)).map (·.2)
theorem mem_putL {k : ByteArray} {v : Int} {p : Kv} : ∀ {l : List Kv}, Rising l → (p ∈ putL k v l ↔ p = (k, v) ∨ (p ∈ l ∧ p.1 ≠ k))
  | [], _ => by simp [putL]
  | (a, x) :: l, h => by
    unfold Rising at h
    rw [List.pairwise_cons] at h
    obtain ⟨h1, h2⟩ := h
    unfold putL
    by_cases e : a = k
    · rw [if_pos e]
      subst e
      simp only [List.mem_cons]
      constructor
      · rintro (rfl | hp)
        · exact .inl rfl
        · exact .inr ⟨.inr hp, (ltK_ne (h1 p hp)).symm⟩
      · rintro (rfl | ⟨rfl | hp, hne⟩)
        · exact .inl rfl
        · exact absurd rfl hne
        · exact .inr hp
    · rw [if_neg e]
      by_cases hk : ltK k a = true
      · rw [if_pos hk]
        simp only [List.mem_cons]
        constructor
        · rintro (rfl | rfl | hp)
          · exact .inl rfl
          · exact .inr ⟨.inl rfl, e⟩
          · exact .inr ⟨.inr hp, (ltK_ne (ltK_trans hk (h1 p hp))).symm⟩
        · rintro (rfl | ⟨rfl | hp, _⟩)
          · exact .inl rfl
          · exact .inr (.inl rfl)
          · exact .inr (.inr hp)
      · rw [if_neg hk]
        simp only [List.mem_cons]
        rw [mem_putL h2]
        constructor
        · rintro (rfl | rfl | ⟨hp, hne⟩)
          · exact .inr ⟨.inl rfl, e⟩
          · exact .inl rfl
          · exact .inr ⟨.inr hp, hne⟩
        · rintro (rfl | ⟨rfl | hp, hne⟩)
          · exact .inr (.inl rfl)
          · exact .inl rfl
          · exact .inr (.inr ⟨hp, hne⟩)
theorem rising_put {k : ByteArray} {v : Int} : ∀ {l : List Kv}, Rising l → Rising (putL k v l)
  | [], _ => by simp [putL, Rising]
  | (a, x) :: l, h => by
    have h0 := h
    unfold Rising at h
    rw [List.pairwise_cons] at h
    obtain ⟨h1, h2⟩ := h
    unfold putL
    by_cases e : a = k
    · rw [if_pos e]
      subst e
      exact List.pairwise_cons.2 ⟨h1, h2⟩
    · rw [if_neg e]
      by_cases hk : ltK k a = true
      · rw [if_pos hk]
        refine List.pairwise_cons.2 ⟨fun p hp => ?_, h0⟩
        rcases List.mem_cons.1 hp with rfl | hp
        · exact hk
        · exact ltK_trans hk (h1 p hp)
      · rw [if_neg hk]
        have hka : ltK a k = true := by
          cases h3 : ltK a k with
          | true => rfl
          | false => exact absurd (ltK_total h3 (by simpa using hk)) e
        refine List.pairwise_cons.2 ⟨fun p hp => ?_, rising_put h2⟩
        rcases (mem_putL h2).1 hp with rfl | ⟨hp, _⟩
        · exact hka
        · exact h1 p hp
theorem rising_del {k : ByteArray} {l : List Kv} (h : Rising l) : Rising (delL k l) := h.sublist List.filter_sublist
theorem mem_delL {k : ByteArray} {p : Kv} {l : List Kv} : p ∈ delL k l ↔ p ∈ l ∧ p.1 ≠ k := by simp [delL]
theorem rising_one {l : List Kv} (h : Rising l) {k : ByteArray} {v x : Int} (h1 : (k, v) ∈ l) (h2 : (k, x) ∈ l) : v = x := by
  induction l with
  | nil => cases h1
  | cons p l ih =>
    unfold Rising at h
    rw [List.pairwise_cons] at h
    rcases List.mem_cons.1 h1 with e1 | g1
    · rcases List.mem_cons.1 h2 with e2 | g2
      · rw [← e1] at e2
        cases e2
        rfl
      · have := h.1 _ g2
        rw [← e1, ltK_irrefl] at this
        cases this
    · rcases List.mem_cons.1 h2 with e2 | g2
      · have := h.1 _ g1
        rw [← e2, ltK_irrefl] at this
        cases this
      · exact ih h.2 g1 g2
theorem getL_some {l : List Kv} (h : Rising l) {k : ByteArray} {v : Int} : getL k l = some v ↔ (k, v) ∈ l := by
  unfold getL
  constructor
  · intro e
    cases hf : l.find? fun p => decide (p.1 = k) with
    | none => rw [hf] at e; cases e
    | some p =>
      rw [hf] at e
      have hm := List.mem_of_find?_eq_some hf
      have hp := List.find?_some hf
      simp at hp e
      obtain ⟨a, x⟩ := p
      simp at hp e
      subst hp e
      exact hm
  · intro hm
    cases hf : l.find? fun p => decide (p.1 = k) with
    | none =>
      rw [List.find?_eq_none] at hf
      exact absurd (hf _ hm) (by simp)
    | some p =>
      have hm2 := List.mem_of_find?_eq_some hf
      have hp := List.find?_some hf
      simp at hp
      obtain ⟨a, x⟩ := p
      simp at hp
      subst hp
      simp [rising_one h hm2 hm]
/-- Two such lists that have the same pairs are the same. -/
theorem rising_ext : ∀ {l m : List Kv}, Rising l → Rising m → (∀ p, p ∈ l ↔ p ∈ m) → l = m
  | [], [], _, _, _ => rfl
  | [], q :: m, _, _, h => absurd ((h q).2 List.mem_cons_self) (by simp)
  | p :: l, [], _, _, h => absurd ((h p).1 List.mem_cons_self) (by simp)
  | p :: l, q :: m, hl, hm, h => by
    unfold Rising at hl hm
    rw [List.pairwise_cons] at hl hm
    have e : p = q := by
      rcases List.mem_cons.1 ((h p).1 List.mem_cons_self) with e | h1
      · exact e
      · rcases List.mem_cons.1 ((h q).2 List.mem_cons_self) with e | h2
        · exact e.symm
        · have := ltK_asymm (hm.1 p h1)
          rw [hl.1 q h2] at this
          cases this
    subst e
    rw [rising_ext hl.2 hm.2 fun r => ?_]
    constructor
    · intro hr
      rcases List.mem_cons.1 ((h r).1 (List.mem_cons_of_mem _ hr)) with e | h3
      · subst e; have := hl.1 r hr; rw [ltK_irrefl] at this; cases this
      · exact h3
    · intro hr
      rcases List.mem_cons.1 ((h r).2 (List.mem_cons_of_mem _ hr)) with e | h3
      · subst e; have := hm.1 r hr; rw [ltK_irrefl] at this; cases this
      · exact h3
end Go.Proofs.YthfkcbnabnmnjabGreatDoor
