/- Chunks that were taken, let go, the last one first, and taken again: lists alone, nothing of the program is run here. Conditions: none. -/
import Derived.Test.YtdjagifmcimedaaChRow
namespace Go.Proofs.Ytdjagifmcimedaa

/-- The slab behind so many takings. -/
def SA (bud : Int) (sz : Nat → Int) : Nat → Sb
  | 0 => freshS bud
  | i + 1 => takeS (SA bud sz i) (sz i)
/-- A slab that has let go all that came later. -/
def back (st fin : Sb) : Sb := ⟨st.bud, st.inn, (fin.inn.drop st.inn.length).reverse, fin.made⟩
section
variable (bud : Int) (sz : Nat → Int)
theorem sa_good : ∀ i, GoodS (SA bud sz i)
  | 0 => good_freshS bud
  | i + 1 => good_take (sa_good i) _
theorem sa_small : ∀ i, Small (SA bud sz i) i
  | 0 => small_fresh bud
  | i + 1 => small_take (sa_small i) _
theorem take_gone {st : Sb} (h : st.gone = []) (s : Int) : (takeS st s).gone = [] := by
  unfold takeS
  split
  · unfold addC
    rw [h]
    simp
  · exact h
theorem sa_gone : ∀ i, (SA bud sz i).gone = []
  | 0 => rfl
  | i + 1 => take_gone (sa_gone i) _
theorem take_bud (st : Sb) (s : Int) : (takeS st s).bud = st.bud := by
  unfold takeS
  split
  · unfold addC
    split <;> rfl
  · rfl
theorem take_ext (st : Sb) (s : Int) : ∃ e, (takeS st s).inn = st.inn ++ e := by
  by_cases h : takeErr st s = 0
  · exact ⟨_, take_zero h⟩
  · exact ⟨[], by rw [take_not h, List.append_nil]⟩
theorem sa_ext (i : Nat) : ∀ d, ∃ e, (SA bud sz (i + d)).inn = (SA bud sz i).inn ++ e
  | 0 => ⟨[], by simp⟩
  | d + 1 => by
    obtain ⟨e, he⟩ := sa_ext i d
    obtain ⟨f, hf⟩ := take_ext (SA bud sz (i + d)) (sz (i + d))
    exact ⟨e ++ f, by
      show (takeS (SA bud sz (i + d)) (sz (i + d))).inn = _
      rw [hf, he, List.append_assoc]⟩
end
theorem used_back (st fin : Sb) : usedS (back st fin) = usedS st := rfl
theorem err_back (st fin : Sb) (s : Int) : takeErr (back st fin) s = takeErr st s := rfl
theorem back_self {fin : Sb} (h : fin.gone = []) : back fin fin = fin := by
  cases fin
  simp only at h
  subst h
  simp [back]
theorem last_one (l : List Ck) (c : Ck) (k : Nat) (h : c.1 = (k : Int)) : ((l ++ [c]).filter fun d => decide (d.1 = (k : Int))).getLast? = some c := by
  rw [List.filter_append]
  have : [c].filter (fun d => decide (d.1 = (k : Int))) = [c] := by simp [h]
  rw [this]
  simp
theorem erase_last (l : List Ck) (c : Ck) (h : ¬ c ∈ l) : (l ++ [c]).erase c = l := by
  rw [List.erase_append_right _ h]
  simp
/-- Taken again: the same answer, and one more step on the same road. -/
theorem again_take {st fin : Sb} (hf : GoodS fin) (s : Int) {ext : List Ck} (he : fin.inn = (takeS st s).inn ++ ext) : takeCk (back st fin) s = takeCk st s ∧ takeS (back st fin) s = back (takeS st s) fin := by
  by_cases h : takeErr st s = 0
  · have hb : takeErr (back st fin) s = 0 := h
    have hc := next_cls st (clsOf s)
    have hck : takeCk st s = nextS st (clsOf s) := by unfold takeCk; rw [if_pos h]
    have hin := take_zero h
    rw [hck] at hin
    have hcn : nextS (back st fin) (clsOf s) = nextS st (clsOf s) := by
      show ((((fin.inn.drop st.inn.length).reverse).filter _).getLast?).getD _ = _
      rw [he, hin, List.append_assoc, List.drop_left]
      simp only [List.singleton_append, List.reverse_cons]
      rw [last_one _ _ _ hc]
      rfl
    have hnd : fin.inn.Nodup := (List.nodup_append.1 hf.nodup).1
    rw [he, hin] at hnd
    have hne : ¬ nextS st (clsOf s) ∈ ext.reverse := fun hm => by
      have h2 := (List.nodup_append.1 hnd).2.2 (nextS st (clsOf s)) (by simp) _ (List.mem_reverse.1 hm)
      exact h2 rfl
    have hgone : (back st fin).gone = ext.reverse ++ [nextS st (clsOf s)] := by
      show (fin.inn.drop st.inn.length).reverse = _
      rw [he, hin, List.append_assoc, List.drop_left]
      simp
    refine ⟨by rw [hck]; unfold takeCk; rw [if_pos hb, hcn], ?_⟩
    show (if takeErr (back st fin) s = 0 then addC (back st fin) (clsOf s) (nextS (back st fin) (clsOf s)) else _) = _
    rw [if_pos hb, hcn]
    unfold addC
    rw [if_pos (by rw [hgone]; simp), hgone, erase_last _ _ hne]
    unfold back
    rw [take_bud, hin, he, hin, List.drop_left]
  · have hb : ¬ takeErr (back st fin) s = 0 := h
    refine ⟨by unfold takeCk; rw [if_neg h, if_neg hb], ?_⟩
    rw [take_not h, take_not hb]
/-- Let go: one step back. -/
theorem again_free {st fin : Sb} (hf : GoodS fin) (s : Int) {ext : List Ck} (he : fin.inn = (takeS st s).inn ++ ext) (h : takeErr st s = 0) : freeErr (back (takeS st s) fin) (takeCk st s) = 0 ∧ freeS (back (takeS st s) fin) (takeCk st s) = back st fin := by
  have hin := take_zero h
  generalize takeCk st s = c at *
  have hm : c ∈ (back (takeS st s) fin).inn := by
    show c ∈ (takeS st s).inn
    rw [hin]
    simp
  have hnd : fin.inn.Nodup := (List.nodup_append.1 hf.nodup).1
  rw [he, hin] at hnd
  have hno : ¬ c ∈ st.inn := fun hx => (List.nodup_append.1 (List.nodup_append.1 hnd).1).2.2 c hx c (by simp) rfl
  refine ⟨if_pos hm, ?_⟩
  unfold freeS
  rw [if_pos hm]
  unfold back
  simp only
  rw [take_bud, hin, erase_last _ _ hno, he, hin, List.drop_left, List.append_assoc, List.drop_left]
  simp
theorem back_not {st fin : Sb} (s : Int) (h : ¬ takeErr st s = 0) : back (takeS st s) fin = back st fin := by rw [take_not h]
theorem back_small {st fin : Sb} {n : Nat} (hf : Small fin n) {ext : List Ck} (he : fin.inn = st.inn ++ ext) : Small (back st fin) n := by
  have := hf.inn
  rw [he, List.length_append] at this
  refine ⟨by show st.inn.length ≤ n; omega, ?_, hf.made⟩
  show ((fin.inn.drop st.inn.length).reverse).length ≤ n
  rw [he, List.drop_left, List.length_reverse]
  omega
/-- What was answered. -/
def aC (bud : Int) (sz : Nat → Int) (k : Nat) : List Ck := (List.range k).map fun i => takeCk (SA bud sz i) (sz i)
def eC (bud : Int) (sz : Nat → Int) (k : Nat) : List Int := (List.range k).map fun i => takeErr (SA bud sz i) (sz i)
theorem aC_len (bud : Int) (sz : Nat → Int) (k : Nat) : (aC bud sz k).length = k := by simp [aC]
theorem eC_len (bud : Int) (sz : Nat → Int) (k : Nat) : (eC bud sz k).length = k := by simp [eC]
theorem aC_succ (bud : Int) (sz : Nat → Int) (k : Nat) : aC bud sz (k + 1) = aC bud sz k ++ [takeCk (SA bud sz k) (sz k)] := by simp [aC, List.range_succ]
theorem eC_succ (bud : Int) (sz : Nat → Int) (k : Nat) : eC bud sz (k + 1) = eC bud sz k ++ [takeErr (SA bud sz k) (sz k)] := by simp [eC, List.range_succ]
theorem aC_get (bud : Int) (sz : Nat → Int) (k i : Nat) (h : i < (aC bud sz k).length) : (aC bud sz k)[i] = takeCk (SA bud sz i) (sz i) := by simp [aC]
theorem eC_get (bud : Int) (sz : Nat → Int) (k i : Nat) (h : i < (eC bud sz k).length) : (eC bud sz k)[i] = takeErr (SA bud sz i) (sz i) := by simp [eC]
end Go.Proofs.Ytdjagifmcimedaa
