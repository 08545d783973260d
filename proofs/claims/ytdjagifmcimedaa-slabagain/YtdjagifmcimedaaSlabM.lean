/- Slabs over lists of chunks alone: nothing of the program is run here. Conditions: none. -/
import Derived.Test.YtdjagifmcimedaaKit0
namespace Go.Proofs.Ytdjagifmcimedaa

/-- A chunk: its class, its number. -/
abbrev Ck := Int × Int
def bytesC (k : Int) : Int := if k = 0 then 64 else if k = 1 then 128 else if k = 2 then 256 else if k = 3 then 512 else if k = 4 then 1024 else if k = 5 then 2048 else 0
def clsOf (size : Int) : Nat := if size ≤ 64 then 0 else if size ≤ 128 then 1 else if size ≤ 256 then 2 else if size ≤ 512 then 3 else if size ≤ 1024 then 4 else if size ≤ 2048 then 5 else 0
def clsErr (size : Int) : Int := if size ≤ 2048 then 0 else 4
/-- A budget, the chunks in use, those that were let go, how many were made of each class. -/
structure Sb where
  bud : Int
  inn : List Ck
  gone : List Ck
  made : List Nat
def freshS (bud : Int) : Sb := ⟨bud, [], [], [0, 0, 0, 0, 0, 0]⟩
def sumB (l : List Ck) : Int := (l.map fun c => bytesC c.1).sum
def usedS (st : Sb) : Int := sumB st.inn
def nextS (st : Sb) (k : Nat) : Ck := ((st.gone.filter fun c => decide (c.1 = (k : Int))).getLast?).getD ((k : Int), ((st.made.getD k 0 : Nat) : Int))
def takeErr (st : Sb) (size : Int) : Int := if size ≤ 2048 then (if usedS st + bytesC (clsOf size) ≤ st.bud then 0 else 5) else 4
def takeCk (st : Sb) (size : Int) : Ck := if takeErr st size = 0 then nextS st (clsOf size) else (0, 0)
def addC (st : Sb) (k : Nat) (c : Ck) : Sb := if c ∈ st.gone then ⟨st.bud, st.inn ++ [c], st.gone.erase c, st.made⟩ else ⟨st.bud, st.inn ++ [c], st.gone, st.made.set k (st.made.getD k 0 + 1)⟩
def takeS (st : Sb) (size : Int) : Sb := if takeErr st size = 0 then addC st (clsOf size) (nextS st (clsOf size)) else st
def freeErr (st : Sb) (c : Ck) : Int := if c ∈ st.inn then 0 else 1
def freeS (st : Sb) (c : Ck) : Sb := if c ∈ st.inn then ⟨st.bud, st.inn.erase c, st.gone ++ [c], st.made⟩ else st
def fitsS (st : Sb) (size less : Int) : Bool := decide (size ≤ 2048 ∧ 0 ≤ less ∧ less ≤ usedS st ∧ usedS st - less + bytesC (clsOf size) ≤ st.bud)
structure GoodS (st : Sb) : Prop where
  nodup : (st.inn ++ st.gone).Nodup
  len : st.made.length = 6
  cls : ∀ c ∈ st.inn ++ st.gone, 0 ≤ c.1 ∧ c.1 < 6 ∧ 0 ≤ c.2 ∧ c.2 < ((st.made.getD c.1.toNat 0 : Nat) : Int)
  bud : st.inn = [] ∨ usedS st ≤ st.bud
/-- No list of it is longer. -/
structure Small (st : Sb) (n : Nat) : Prop where
  inn : st.inn.length ≤ n
  gone : st.gone.length ≤ n
  made : ∀ m ∈ st.made, m ≤ n

theorem bytes_nonneg (k : Int) : 0 ≤ bytesC k := by
  unfold bytesC
  repeat' split
  all_goals omega
theorem bytes_le (k : Int) : bytesC k ≤ 2048 := by
  unfold bytesC
  repeat' split
  all_goals omega
theorem cls_lt (size : Int) : clsOf size < 6 := by
  unfold clsOf
  repeat' split
  all_goals omega
theorem sumB_app (l m : List Ck) : sumB (l ++ m) = sumB l + sumB m := by simp [sumB]
theorem sumB_cons (c : Ck) (l : List Ck) : sumB (c :: l) = bytesC c.1 + sumB l := by simp [sumB]
theorem sumB_one (c : Ck) : sumB [c] = bytesC c.1 := by simp [sumB]
theorem sumB_nonneg : ∀ l : List Ck, 0 ≤ sumB l
  | [] => by simp [sumB]
  | c :: l => by
    have h1 := sumB_nonneg l
    have h2 := bytes_nonneg c.1
    rw [sumB_cons]
    omega
theorem sumB_le : ∀ l : List Ck, sumB l ≤ 2048 * l.length
  | [] => by simp [sumB]
  | c :: l => by
    have h1 := sumB_le l
    have h2 := bytes_le c.1
    rw [sumB_cons, List.length_cons]
    omega
theorem sumB_erase : ∀ (l : List Ck) (c : Ck), c ∈ l → sumB (l.erase c) = sumB l - bytesC c.1
  | [], c, h => by cases h
  | d :: l, c, h => by
    by_cases e : d = c
    · subst e
      rw [List.erase_cons_head, sumB_cons]
      omega
    · rw [List.erase_cons_tail (by simpa using e), sumB_cons, sumB_cons, sumB_erase l c ((List.mem_cons.1 h).resolve_left fun h => e h.symm)]
      omega
theorem next_cases (st : Sb) (k : Nat) : (nextS st k ∈ st.gone ∧ (nextS st k).1 = (k : Int)) ∨ ((∀ c ∈ st.gone, c.1 ≠ (k : Int)) ∧ nextS st k = ((k : Int), ((st.made.getD k 0 : Nat) : Int))) := by
  unfold nextS
  cases h : (st.gone.filter fun c => decide (c.1 = (k : Int))).getLast? with
  | some c =>
    have := List.mem_of_getLast? h
    rw [List.mem_filter] at this
    exact .inl ⟨this.1, of_decide_eq_true this.2⟩
  | none =>
    rw [List.getLast?_eq_none_iff, List.filter_eq_nil_iff] at h
    exact .inr ⟨fun c hc e => h c hc (decide_eq_true e), rfl⟩
theorem next_cls (st : Sb) (k : Nat) : (nextS st k).1 = (k : Int) := by
  rcases next_cases st k with h | h
  · exact h.2
  · rw [h.2]
/-- A chunk that is taken was not in use. -/
theorem next_new {st : Sb} (h : GoodS st) (k : Nat) : ¬ nextS st k ∈ st.inn := by
  intro hm
  rcases next_cases st k with ⟨hg, _⟩ | ⟨_, e⟩
  · exact (List.nodup_append.1 h.nodup).2.2 _ hm _ hg rfl
  · have := (h.cls _ (List.mem_append_left _ hm)).2.2.2
    rw [e] at this
    simp at this
theorem getD_set_nat (l : List Nat) (i j x : Nat) (h : i < l.length) : (l.set i x).getD j 0 = if i = j then x else l.getD j 0 := by
  simp only [List.getD, List.getElem?_set]
  by_cases e : i = j
  · subst e
    simp [h]
  · simp [e]
theorem good_freshS (bud : Int) : GoodS (freshS bud) := ⟨List.nodup_nil, rfl, fun _ hc => (List.not_mem_nil hc).elim, .inl rfl⟩
theorem erase_perm {l : List Ck} {c : Ck} (h : c ∈ l) : ([c] ++ l.erase c).Perm l := (List.perm_cons_erase h).symm
theorem good_take {st : Sb} (h : GoodS st) (size : Int) : GoodS (takeS st size) := by
  unfold takeS
  by_cases he : takeErr st size = 0
  · rw [if_pos he]
    have hb : usedS st + bytesC (clsOf size) ≤ st.bud := by
      unfold takeErr at he
      split at he
      · split at he
        · assumption
        · omega
      · omega
    have hk := cls_lt size
    have hc1 := next_cls st (clsOf size)
    have hnew := next_new h (clsOf size)
    have hnc := next_cases st (clsOf size)
    generalize nextS st (clsOf size) = c at *
    generalize clsOf size = k at *
    have hused : sumB (st.inn ++ [c]) ≤ st.bud := by
      rw [sumB_app, sumB_one, hc1]
      exact hb
    unfold addC
    by_cases hg : c ∈ st.gone
    · rw [if_pos hg]
      have hp : (st.inn ++ [c] ++ st.gone.erase c).Perm (st.inn ++ st.gone) := by
        rw [List.append_assoc]
        exact List.Perm.append_left _ (erase_perm hg)
      exact ⟨hp.nodup_iff.2 h.nodup, h.len, fun d hd => h.cls d (hp.mem_iff.1 hd), .inr hused⟩
    · rw [if_neg hg]
      obtain ⟨hno, ec⟩ := hnc.resolve_left fun x => hg x.1
      have hfree : ¬ c ∈ st.inn ++ st.gone := fun hm => (List.mem_append.1 hm).elim hnew hg
      refine ⟨?_, by rw [List.length_set]; exact h.len, fun d hd => ?_, .inr hused⟩
      · have hp : (st.inn ++ [c] ++ st.gone).Perm (c :: (st.inn ++ st.gone)) := by
          rw [List.append_assoc]
          exact List.perm_middle
        rw [hp.nodup_iff]
        exact List.nodup_cons.2 ⟨hfree, h.nodup⟩
      · rw [getD_set_nat _ _ _ _ (by rw [h.len]; exact hk)]
        have hd2 : d = c ∨ d ∈ st.inn ++ st.gone := by
          simp only [List.mem_append, List.mem_singleton] at hd ⊢
          rcases hd with (hd | hd) | hd
          · exact .inr (.inl hd)
          · exact .inl hd
          · exact .inr (.inr hd)
        rcases hd2 with rfl | hd2
        · rw [hc1, ec]
          simp
          omega
        · obtain ⟨a1, a2, a3, a4⟩ := h.cls d hd2
          refine ⟨a1, a2, a3, ?_⟩
          by_cases e : k = d.1.toNat
          · rw [if_pos e, e]
            omega
          · rw [if_neg e]
            exact a4
  · rw [if_neg he]
    exact h
theorem good_free {st : Sb} (h : GoodS st) (c : Ck) : GoodS (freeS st c) := by
  unfold freeS
  by_cases hm : c ∈ st.inn
  · rw [if_pos hm]
    have hp : (st.inn.erase c ++ (st.gone ++ [c])).Perm (st.inn ++ st.gone) := by
      refine List.Perm.trans ?_ (List.Perm.append_right st.gone (erase_perm hm))
      rw [← List.append_assoc]
      exact (List.perm_append_comm).trans (by simp)
    refine ⟨hp.nodup_iff.2 h.nodup, h.len, fun d hd => h.cls d (hp.mem_iff.1 hd), ?_⟩
    rcases h.bud with e | e
    · rw [e] at hm
      cases hm
    · refine .inr ?_
      show sumB (st.inn.erase c) ≤ st.bud
      rw [sumB_erase _ _ hm]
      have := bytes_nonneg c.1
      have e2 : usedS st = sumB st.inn := rfl
      omega
  · rw [if_neg hm]
    exact h
theorem used_bound {st : Sb} {n : Nat} (h : Small st n) : 0 ≤ usedS st ∧ usedS st ≤ 2048 * n := by
  have h1 := sumB_nonneg st.inn
  have h2 := sumB_le st.inn
  have h3 := h.inn
  have e : usedS st = sumB st.inn := rfl
  omega
theorem small_fresh (bud : Int) : Small (freshS bud) 0 := ⟨Nat.le_refl _, Nat.le_refl _, fun m hm => by simp [freshS] at hm; omega⟩
theorem small_mono {st : Sb} {n m : Nat} (h : Small st n) (hm : n ≤ m) : Small st m := ⟨Nat.le_trans h.inn hm, Nat.le_trans h.gone hm, fun x hx => Nat.le_trans (h.made x hx) hm⟩
theorem small_take {st : Sb} {n : Nat} (h : Small st n) (size : Int) : Small (takeS st size) (n + 1) := by
  unfold takeS
  split
  · unfold addC
    split
    · refine ⟨by rw [List.length_append]; exact Nat.succ_le_succ h.inn, ?_, fun m hm => Nat.le_succ_of_le (h.made m hm)⟩
      exact Nat.le_succ_of_le (Nat.le_trans (List.length_erase_le) h.gone)
    · refine ⟨by rw [List.length_append]; exact Nat.succ_le_succ h.inn, Nat.le_succ_of_le h.gone, fun m hm => ?_⟩
      rcases List.mem_or_eq_of_mem_set hm with h1 | h1
      · exact Nat.le_succ_of_le (h.made m h1)
      · rw [h1]
        refine Nat.succ_le_succ ?_
        by_cases hk : clsOf size < st.made.length
        · simp only [List.getD, List.getElem?_eq_getElem hk, Option.getD_some]
          exact h.made _ (List.getElem_mem hk)
        · simp [List.getD, List.getElem?_eq_none (Nat.le_of_not_lt hk)]
  · exact small_mono h (Nat.le_succ n)
theorem small_free {st : Sb} {n : Nat} (h : Small st n) (c : Ck) : Small (freeS st c) (n + 1) := by
  unfold freeS
  split
  · exact ⟨Nat.le_succ_of_le (Nat.le_trans (List.length_erase_le) h.inn), by rw [List.length_append]; exact Nat.succ_le_succ h.gone, fun m hm => Nat.le_succ_of_le (h.made m hm)⟩
  · exact small_mono h (Nat.le_succ n)
end Go.Proofs.Ytdjagifmcimedaa
