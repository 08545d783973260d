/- Buckets of texts over lists alone: nothing of the program is run here. Conditions: none. Rows of entries, each a text and a number, and rows of such rows, in memory. Conditions: none. -/
import Derived.Test.YtkfeafmpaodagaaGreatDoorG03Joined
import Derived.Test.YtkfeafmpaodagaaGreatDoorG13Joined
import Derived.Test.YtkfeafmpaodagaaGreatDoorG00Joined
import Derived.Lib.AppendZeros
namespace Go.Proofs.YtkfeafmpaodagaaGreatDoor

def updF {α : Type} (f : Nat → α) (i : Nat) (x : α) : Nat → α := fun j => if j = i then x else f j
theorem updF_same {α : Type} (f : Nat → α) (i : Nat) (x : α) : updF f i x i = x := if_pos rfl
theorem updF_other {α : Type} (f : Nat → α) {i j : Nat} (x : α) (h : j ≠ i) : updF f i x j = f j := if_neg h
theorem updF_self {α : Type} (f : Nat → α) (i : Nat) : updF f i (f i) = f := by
  funext j
  unfold updF
  split
  · rename_i h
    rw [h]
  · rfl
/-- What the first n buckets have. -/
def flatN (n : Nat) (B : Nat → List Kv) : List Kv := (List.range n).flatMap B
theorem flat_succ (n : Nat) (B : Nat → List Kv) : flatN (n + 1) B = flatN n B ++ B n := by simp [flatN, List.range_succ]
theorem flat_congr {f g : Nat → List Kv} : ∀ {n : Nat}, (∀ i, i < n → f i = g i) → flatN n f = flatN n g
  | 0, _ => rfl
  | n + 1, h => by rw [flat_succ, flat_succ, flat_congr (fun i hi => h i (Nat.lt_succ_of_lt hi)), h n (Nat.lt_succ_self n)]
theorem mem_flat {n : Nat} {B : Nat → List Kv} {p : Kv} : p ∈ flatN n B ↔ ∃ i, i < n ∧ p ∈ B i := by simp [flatN]
theorem flat_none (n : Nat) : flatN n (fun _ => []) = [] := by
  induction n with
  | zero => rfl
  | succ n ih => rw [flat_succ, ih]; rfl
theorem flat_pick (B : Nat → List Kv) (j : Nat) : ∀ n, j < n → ∃ rest, ∀ L, (flatN n (updF B j L)).Perm (L ++ rest)
  | 0, h => absurd h (Nat.not_lt_zero _)
  | n + 1, h => by
    by_cases e : j = n
    · subst e
      refine ⟨flatN j B, fun L => ?_⟩
      rw [flat_succ, updF_same, flat_congr (g := B) (fun i hi => updF_other B L (Nat.ne_of_lt hi))]
      exact List.perm_append_comm
    · obtain ⟨rest, hr⟩ := flat_pick B j n (by omega)
      refine ⟨rest ++ B n, fun L => ?_⟩
      rw [flat_succ, updF_other B L (Ne.symm e), ← List.append_assoc]
      exact (hr L).append_right _
def NodupK (l : List Kv) : Prop := (l.map (·.1)).Nodup
theorem nodup_of {l : List Kv} (h : NodupK l) : l.Nodup := by
  unfold NodupK List.Nodup at h
  rw [List.pairwise_map] at h
  exact List.Pairwise.imp (fun hab e => hab (by rw [e])) h
theorem rising_nodup {l : List Kv} (h : Rising l) : NodupK l := by
  unfold NodupK List.Nodup
  rw [List.pairwise_map]
  exact List.Pairwise.imp (fun hab => ltK_ne hab) h
theorem NodupK.perm {a b : List Kv} (h : NodupK a) (hp : a.Perm b) : NodupK b := (hp.map _).nodup_iff.1 h
theorem perm_mem {a b : List Kv} (ha : NodupK a) (hb : NodupK b) (h : ∀ p, p ∈ a ↔ p ∈ b) : a.Perm b := (List.perm_ext_iff_of_nodup (nodup_of ha) (nodup_of hb)).2 h
theorem head_ne {k : ByteArray} {x : Int} {o : List Kv} (h : NodupK ((k, x) :: o)) : ∀ p ∈ o, p.1 ≠ k := by
  unfold NodupK at h
  rw [List.map_cons, List.nodup_cons] at h
  exact fun p hp e => h.1 (List.mem_map.2 ⟨p, hp, e⟩)
theorem put_there {l o : List Kv} {k : ByteArray} {x v : Int} (hr : Rising l) (hp : l.Perm ((k, x) :: o)) : (putL k v l).Perm ((k, v) :: o) := by
  have hn := (rising_nodup hr).perm hp
  have hne := head_ne hn
  refine perm_mem (rising_nodup (rising_put hr)) hn fun p => ?_
  rw [mem_putL hr, hp.mem_iff]
  simp only [List.mem_cons]
  constructor
  · rintro (h | ⟨h | h, hk⟩)
    · exact .inl h
    · exact absurd (by rw [h]) hk
    · exact .inr h
  · rintro (h | h)
    · exact .inl h
    · exact .inr ⟨.inr h, hne p h⟩
theorem put_anew {l : List Kv} {k : ByteArray} {v : Int} (hr : Rising l) (hn : ∀ p ∈ l, p.1 ≠ k) : (putL k v l).Perm ((k, v) :: l) := by
  refine perm_mem (rising_nodup (rising_put hr)) ?_ fun p => ?_
  · unfold NodupK
    rw [List.map_cons, List.nodup_cons]
    refine ⟨fun h => ?_, rising_nodup hr⟩
    obtain ⟨p, hp, e⟩ := List.mem_map.1 h
    exact hn p hp e
  · rw [mem_putL hr]
    simp only [List.mem_cons]
    exact ⟨fun h => h.imp id fun h => h.1, fun h => h.imp id fun h => ⟨h, hn p h⟩⟩
theorem del_there {l o : List Kv} {k : ByteArray} {x : Int} (hr : Rising l) (hp : l.Perm ((k, x) :: o)) : (delL k l).Perm o := by
  have hne := head_ne ((rising_nodup hr).perm hp)
  refine (hp.filter _).trans ?_
  rw [List.filter_cons_of_neg (by simp), List.filter_eq_self.2 (fun p h => by simpa using hne p h)]
theorem delL_none {l : List Kv} {k : ByteArray} (hn : ∀ p ∈ l, p.1 ≠ k) : delL k l = l := List.filter_eq_self.2 fun p h => by simpa using hn p h
theorem get_there {l : List Kv} {k : ByteArray} {x : Int} (hn : NodupK l) (h : (k, x) ∈ l) : getL k l = some x := by
  obtain ⟨a, b, rfl⟩ := List.append_of_mem h
  have hne := head_ne (hn.perm List.perm_middle)
  unfold getL
  rw [List.find?_append]
  have : a.find? (fun p => decide (p.1 = k)) = none := List.find?_eq_none.2 fun p hp => by simpa using hne p (List.mem_append_left _ hp)
  rw [this]
  simp
theorem get_none {l : List Kv} {k : ByteArray} (hn : ∀ p ∈ l, p.1 ≠ k) : getL k l = none := by
  unfold getL
  rw [List.find?_eq_none.2 fun p hp => by simpa using hn p hp]
  rfl
/-! In one bucket. -/
def bput (k : ByteArray) (v : Int) : List Kv → List Kv
  | [] => [(k, v)]
  | p :: l => if p.1 = k then (k, v) :: l else p :: bput k v l
def bdel (k : ByteArray) : List Kv → List Kv
  | [] => []
  | p :: l => if p.1 = k then l else p :: bdel k l
def bhas (k : ByteArray) (l : List Kv) : Bool := l.any fun p => decide (p.1 = k)
theorem b_cases (k : ByteArray) : ∀ l : List Kv, (∃ pre x post, l = pre ++ (k, x) :: post ∧ ∀ p ∈ pre, p.1 ≠ k) ∨ ∀ p ∈ l, p.1 ≠ k
  | [] => .inr (by simp)
  | (a, x) :: l => by
    by_cases e : a = k
    · subst e
      exact .inl ⟨[], x, l, rfl, by simp⟩
    · rcases b_cases k l with ⟨pre, y, post, rfl, h⟩ | h
      · refine .inl ⟨(a, x) :: pre, y, post, rfl, fun p hp => ?_⟩
        rcases List.mem_cons.1 hp with rfl | hp
        · exact e
        · exact h p hp
      · refine .inr fun p hp => ?_
        rcases List.mem_cons.1 hp with rfl | hp
        · exact e
        · exact h p hp
theorem bput_hit {k : ByteArray} {x v : Int} {post : List Kv} : ∀ {pre : List Kv}, (∀ p ∈ pre, p.1 ≠ k) → bput k v (pre ++ (k, x) :: post) = pre ++ (k, v) :: post
  | [], _ => by simp [bput]
  | p :: l, h => by
    rw [List.cons_append]
    unfold bput
    rw [if_neg (h p List.mem_cons_self), bput_hit fun q hq => h q (List.mem_cons_of_mem _ hq)]
    rfl
theorem bput_miss {k : ByteArray} {v : Int} : ∀ {l : List Kv}, (∀ p ∈ l, p.1 ≠ k) → bput k v l = l ++ [(k, v)]
  | [], _ => rfl
  | p :: l, h => by
    unfold bput
    rw [if_neg (h p List.mem_cons_self), bput_miss fun q hq => h q (List.mem_cons_of_mem _ hq)]
    rfl
theorem bdel_hit {k : ByteArray} {x : Int} {post : List Kv} : ∀ {pre : List Kv}, (∀ p ∈ pre, p.1 ≠ k) → bdel k (pre ++ (k, x) :: post) = pre ++ post
  | [], _ => by simp [bdel]
  | p :: l, h => by
    rw [List.cons_append]
    unfold bdel
    rw [if_neg (h p List.mem_cons_self), bdel_hit fun q hq => h q (List.mem_cons_of_mem _ hq)]
    rfl
theorem bdel_miss {k : ByteArray} : ∀ {l : List Kv}, (∀ p ∈ l, p.1 ≠ k) → bdel k l = l
  | [], _ => rfl
  | p :: l, h => by
    unfold bdel
    rw [if_neg (h p List.mem_cons_self), bdel_miss fun q hq => h q (List.mem_cons_of_mem _ hq)]
theorem bhas_hit {k : ByteArray} {x : Int} {pre post : List Kv} : bhas k (pre ++ (k, x) :: post) = true := by simp [bhas]
theorem bhas_miss {k : ByteArray} {l : List Kv} (h : ∀ p ∈ l, p.1 ≠ k) : bhas k l = false := by
  unfold bhas
  rw [List.any_eq_false]
  exact fun p hp => by simpa using h p hp
theorem mem_bput {k : ByteArray} {v : Int} {l : List Kv} {p : Kv} (h : p ∈ bput k v l) : p.1 = k ∨ p ∈ l := by
  rcases b_cases k l with ⟨pre, x, post, rfl, hp⟩ | hn
  · rw [bput_hit hp] at h
    rcases List.mem_append.1 h with h | h
    · exact .inr (List.mem_append_left _ h)
    · rcases List.mem_cons.1 h with rfl | h
      · exact .inl rfl
      · exact .inr (List.mem_append_right _ (List.mem_cons_of_mem _ h))
  · rw [bput_miss hn] at h
    rcases List.mem_append.1 h with h | h
    · exact .inr h
    · rw [List.mem_singleton.1 h]
      exact .inl rfl
theorem mem_bdel {k : ByteArray} {l : List Kv} {p : Kv} (h : p ∈ bdel k l) : p ∈ l := by
  rcases b_cases k l with ⟨pre, x, post, rfl, hp⟩ | hn
  · rw [bdel_hit hp] at h
    rcases List.mem_append.1 h with h | h
    · exact List.mem_append_left _ h
    · exact List.mem_append_right _ (List.mem_cons_of_mem _ h)
  · rwa [bdel_miss hn] at h
theorem mid_perm (pre : List Kv) (a : Kv) (post rest : List Kv) : ((pre ++ a :: post) ++ rest).Perm (a :: (pre ++ post ++ rest)) := by
  rw [List.append_assoc, List.append_assoc, List.cons_append]
  exact List.perm_middle
/-- A text stands in one bucket L alone, beside what all others have. -/
structure OneB (l L : List Kv) (k : ByteArray) : Prop where
  rise : Rising l
  only : ∀ p ∈ l, p.1 = k → p ∈ L
theorem oneB_put {l L rest : List Kv} {k : ByteArray} (h : OneB l L k) (v : Int) (hp : l.Perm (L ++ rest)) : (bput k v L ++ rest).Perm (putL k v l) ∧ (putL k v l).length = l.length + (if bhas k L then 0 else 1) := by
  rcases b_cases k L with ⟨pre, x, post, rfl, hpre⟩ | hn
  · have h1 := put_there (v := v) h.rise (hp.trans (mid_perm _ _ _ _))
    have h2 := hp.trans (mid_perm _ _ _ _)
    rw [bput_hit hpre, bhas_hit]
    refine ⟨(mid_perm _ _ _ _).trans h1.symm, ?_⟩
    rw [h1.length_eq, h2.length_eq]
    simp
  · have hn' : ∀ p ∈ l, p.1 ≠ k := fun p hpl e => hn p (h.only p hpl e) e
    have h1 := put_anew (v := v) h.rise hn'
    rw [bput_miss hn, bhas_miss hn]
    refine ⟨?_, by rw [h1.length_eq]; simp⟩
    rw [List.append_assoc]
    exact (List.perm_middle (l₁ := L) (a := (k, v)) (l₂ := rest)).trans ((hp.symm.cons _).trans h1.symm)
theorem oneB_del {l L rest : List Kv} {k : ByteArray} (h : OneB l L k) (hp : l.Perm (L ++ rest)) : (bdel k L ++ rest).Perm (delL k l) ∧ l.length = (delL k l).length + (if bhas k L then 1 else 0) := by
  rcases b_cases k L with ⟨pre, x, post, rfl, hpre⟩ | hn
  · have h2 := hp.trans (mid_perm _ _ _ _)
    have h1 := del_there h.rise h2
    rw [bdel_hit hpre, bhas_hit]
    refine ⟨h1.symm, ?_⟩
    rw [h2.length_eq, h1.length_eq]
    simp
  · have hn' : ∀ p ∈ l, p.1 ≠ k := fun p hpl e => hn p (h.only p hpl e) e
    rw [bdel_miss hn, bhas_miss hn, delL_none hn']
    exact ⟨hp.symm, by simp⟩
theorem oneB_get {l L rest : List Kv} {k : ByteArray} (h : OneB l L k) (hp : l.Perm (L ++ rest)) : getL k L = getL k l ∧ bhas k L = (getL k l).isSome := by
  rcases b_cases k L with ⟨pre, x, post, rfl, hpre⟩ | hn
  · have hn := rising_nodup h.rise
    have hin : (k, x) ∈ l := hp.mem_iff.2 (by simp)
    rw [get_there hn hin, bhas_hit]
    refine ⟨?_, rfl⟩
    refine get_there ?_ (by simp)
    have := hn.perm hp
    unfold NodupK at this ⊢
    rw [List.map_append, List.nodup_append] at this
    exact this.1
  · have hn' : ∀ p ∈ l, p.1 ≠ k := fun p hpl e => hn p (h.only p hpl e) e
    rw [get_none hn', get_none hn, bhas_miss hn]
    exact ⟨rfl, rfl⟩
/-! In all of them. -/
def plN (sd n : Nat) (k : ByteArray) : Nat := ofN sd k.data.toList % n
structure FitT (sd N left : Nat) (B E : Nat → List Kv) (l : List Kv) : Prop where
  perm : (flatN left E ++ flatN N B).Perm l
  inE : ∀ i, i < left → ∀ p ∈ E i, plN sd (N / 2) p.1 = i
  inB : ∀ i, i < N → ∀ p ∈ B i, plN sd N p.1 = i ∧ left ≤ plN sd (N / 2) p.1
section
variable {sd N left : Nat} {B E : Nat → List Kv} {l : List Kv} {k : ByteArray}
theorem FitT.oneE (h : FitT sd N left B E l) (hr : Rising l) (hk : plN sd (N / 2) k < left) : OneB l (E (plN sd (N / 2) k)) k := by
  refine ⟨hr, fun p hp e => ?_⟩
  rcases List.mem_append.1 (h.perm.mem_iff.2 hp) with h1 | h1
  · obtain ⟨i, hi, h2⟩ := mem_flat.1 h1
    have := h.inE i hi p h2
    rw [e] at this
    rwa [this]
  · obtain ⟨i, hi, h2⟩ := mem_flat.1 h1
    have := (h.inB i hi p h2).2
    rw [e] at this
    omega
theorem FitT.oneB (h : FitT sd N left B E l) (hr : Rising l) (hk : left ≤ plN sd (N / 2) k) : OneB l (B (plN sd N k)) k := by
  refine ⟨hr, fun p hp e => ?_⟩
  rcases List.mem_append.1 (h.perm.mem_iff.2 hp) with h1 | h1
  · obtain ⟨i, hi, h2⟩ := mem_flat.1 h1
    have := h.inE i hi p h2
    rw [e] at this
    omega
  · obtain ⟨i, hi, h2⟩ := mem_flat.1 h1
    have := (h.inB i hi p h2).1
    rw [e] at this
    rwa [this]
theorem FitT.restE (h : FitT sd N left B E l) {i : Nat} (hi : i < left) : ∃ rest, l.Perm (E i ++ rest) ∧ ∀ L, (flatN left (updF E i L) ++ flatN N B).Perm (L ++ rest) := by
  obtain ⟨rest, hr⟩ := flat_pick E i left hi
  have key : ∀ L, (flatN left (updF E i L) ++ flatN N B).Perm (L ++ (rest ++ flatN N B)) := fun L => by
    rw [← List.append_assoc]
    exact (hr L).append_right _
  refine ⟨rest ++ flatN N B, ?_, key⟩
  have := key (E i)
  rw [updF_self] at this
  exact h.perm.symm.trans this
theorem FitT.restB (h : FitT sd N left B E l) {i : Nat} (hi : i < N) : ∃ rest, l.Perm (B i ++ rest) ∧ ∀ L, (flatN left E ++ flatN N (updF B i L)).Perm (L ++ rest) := by
  obtain ⟨rest, hr⟩ := flat_pick B i N hi
  have key : ∀ L, (flatN left E ++ flatN N (updF B i L)).Perm (L ++ (rest ++ flatN left E)) := fun L => by
    rw [← List.append_assoc]
    exact ((hr L).append_left _).trans List.perm_append_comm
  refine ⟨rest ++ flatN left E, ?_, key⟩
  have := key (B i)
  rw [updF_self] at this
  exact h.perm.symm.trans this
/-- One of the elder buckets turns. -/
theorem FitT.setE (h : FitT sd N left B E l) {i : Nat} {L l' : List Kv} (hin : ∀ p ∈ L, plN sd (N / 2) p.1 = i) (hp : (flatN left (updF E i L) ++ flatN N B).Perm l') : FitT sd N left B (updF E i L) l' := by
  refine ⟨hp, fun j hj p hpj => ?_, h.inB⟩
  by_cases e : j = i
  · rw [e, updF_same] at hpj
    rw [e]
    exact hin p hpj
  · rw [updF_other _ _ e] at hpj
    exact h.inE j hj p hpj
theorem FitT.setB (h : FitT sd N left B E l) {i : Nat} {L l' : List Kv} (hin : ∀ p ∈ L, plN sd N p.1 = i ∧ left ≤ plN sd (N / 2) p.1) (hp : (flatN left E ++ flatN N (updF B i L)).Perm l') : FitT sd N left (updF B i L) E l' := by
  refine ⟨hp, h.inE, fun j hj p hpj => ?_⟩
  by_cases e : j = i
  · rw [e, updF_same] at hpj
    rw [e]
    exact hin p hpj
  · rw [updF_other _ _ e] at hpj
    exact h.inB j hj p hpj
theorem FitT.grow (h : FitT sd N 0 B E l) : FitT sd (2 * N) N (fun _ => []) B l := by
  have e : 2 * N / 2 = N := by omega
  refine ⟨?_, fun i hi p hp => by rw [e]; exact (h.inB i hi p hp).1, fun _ _ p hp => by cases hp⟩
  have := h.perm
  rw [flat_none, List.append_nil]
  exact this
end
/-- While the last elder bucket is moved: what is still to come. -/
structure Moving (sd N last : Nat) (B E : Nat → List Kv) (todo l : List Kv) : Prop where
  perm : (flatN last E ++ flatN N B ++ todo).Perm l
  inE : ∀ i, i < last → ∀ p ∈ E i, plN sd (N / 2) p.1 = i
  inB : ∀ i, i < N → ∀ p ∈ B i, plN sd N p.1 = i ∧ last ≤ plN sd (N / 2) p.1
  todo : ∀ p ∈ todo, plN sd (N / 2) p.1 = last
theorem FitT.moving {sd N last : Nat} {B E : Nat → List Kv} {l : List Kv} (h : FitT sd N (last + 1) B E l) : Moving sd N last B E (E last) l := by
  refine ⟨?_, fun i hi => h.inE i (by omega), fun i hi p hp => ⟨(h.inB i hi p hp).1, by have := (h.inB i hi p hp).2; omega⟩, h.inE last (Nat.lt_succ_self _)⟩
  refine List.Perm.trans ?_ h.perm
  rw [flat_succ, List.append_assoc, List.append_assoc]
  exact List.perm_append_comm.append_left _
theorem Moving.step {sd N last : Nat} {B E : Nat → List Kv} {l todo : List Kv} {p : Kv} (h : Moving sd N last B E (p :: todo) l) (hN : 0 < N) : Moving sd N last (updF B (plN sd N p.1) (B (plN sd N p.1) ++ [p])) E todo l := by
  have hi : plN sd N p.1 < N := Nat.mod_lt _ hN
  obtain ⟨rest, hr⟩ := flat_pick B _ N hi
  have h1 := hr (B (plN sd N p.1))
  rw [updF_self] at h1
  refine ⟨?_, h.inE, fun j hj q hq => ?_, fun q hq => h.todo q (List.mem_cons_of_mem _ hq)⟩
  · refine List.Perm.trans ?_ h.perm
    rw [List.append_assoc, List.append_assoc]
    refine List.Perm.append_left _ ?_
    refine ((hr _).append_right _).trans (List.Perm.trans ?_ (h1.symm.append_right _))
    rw [List.append_assoc, List.append_assoc, List.append_assoc]
    refine List.Perm.append_left _ ?_
    show (p :: (rest ++ todo)).Perm _
    exact List.perm_middle.symm
  · by_cases e : j = plN sd N p.1
    · rw [e, updF_same] at hq
      rw [e]
      rcases List.mem_append.1 hq with hq | hq
      · exact h.inB _ hi q hq
      · rw [List.mem_singleton.1 hq]
        exact ⟨rfl, by rw [h.todo p List.mem_cons_self]; exact Nat.le_refl _⟩
    · rw [updF_other _ _ e] at hq
      exact h.inB j hj q hq
theorem Moving.done {sd N last : Nat} {B E : Nat → List Kv} {l : List Kv} (h : Moving sd N last B E [] l) : FitT sd N last B E l := ⟨by have := h.perm; rwa [List.append_nil] at this, h.inE, h.inB⟩
end Go.Proofs.YtkfeafmpaodagaaGreatDoor

namespace Go.Proofs.YtkfeafmpaodagaaGreatDoor
open Go.RowKit

theorem info_entry : (Tryz.prog.info? 184).map (fun i => (i.zero, i.size, i.bytes)) = some (some (.agg #[.string ⟨#[]⟩, .pointer none]), 2, 24) := by kernel_rfl
theorem info_bucket : (Tryz.prog.info? 181).map (fun i => (i.zero, i.size, i.bytes)) = some (some (.slice none 0 0), 1, 24) := by kernel_rfl
/-- Entries as cells. -/
def enV (xs : List Kv) : List Value := xs.flatMap fun p => [.string p.1, .pointer (some ⟨Int.toNat p.2, 0, none⟩)]
theorem enV_app (xs ys : List Kv) : enV (xs ++ ys) = enV xs ++ enV ys := by simp [enV]
theorem enV_one (p : Kv) : enV [p] = [.string p.1, .pointer (some ⟨Int.toNat p.2, 0, none⟩)] := by simp [enV]
theorem enV_len (xs : List Kv) : (enV xs).length = xs.length * 2 := by
  induction xs with
  | nil => rfl
  | cons p l ih =>
    show (enV l).length + 1 + 1 = _
    rw [ih, List.length_cons]
    omega
theorem enV_at : ∀ {xs : List Kv} {i : Nat} {p : Kv}, xs[i]? = some p → (enV xs)[i * 2]? = some (.string p.1) ∧ (enV xs)[i * 2 + 1]? = some (.pointer (some ⟨Int.toNat p.2, 0, none⟩))
  | [], i, p, h => by simp at h
  | a :: l, 0, p, h => by
    simp at h
    subst h
    exact ⟨rfl, rfl⟩
  | a :: l, i + 1, p, h => by
    have h : l[i]? = some p := by simpa using h
    have := enV_at h
    have e1 : (i + 1) * 2 = i * 2 + 2 := by omega
    rw [e1]
    exact this
theorem enV_cell (l : List Kv) : ∀ u ∈ enV l, u.oneCell' = true := by
  intro u hu
  unfold enV at hu
  rw [List.mem_flatMap] at hu
  obtain ⟨p, _, hu⟩ := hu
  simp at hu
  rcases hu with rfl | rfl <;> rfl
theorem enV_take (l : List Kv) (k : Nat) : (enV l).take (k * 2) = enV (l.take k) := by
  by_cases h : k ≤ l.length
  · have e : l = l.take k ++ l.drop k := (List.take_append_drop k l).symm
    have h2 : (enV (l.take k)).length = k * 2 := by rw [enV_len, List.length_take, Nat.min_eq_left h]
    rw (occs := [1]) [e]
    rw [enV_app, ← h2, List.take_left']
    rfl
  · rw [List.take_of_length_le (l := l) (by omega), List.take_of_length_le (l := enV l) (by rw [enV_len]; omega)]
theorem enV_drop (l : List Kv) (k : Nat) (h : k ≤ l.length) : (enV l).drop (k * 2) = enV (l.drop k) := by
  have e : l = l.take k ++ l.drop k := (List.take_append_drop k l).symm
  have h2 : (enV (l.take k)).length = k * 2 := by rw [enV_len, List.length_take, Nat.min_eq_left h]
  rw (occs := [1]) [e]
  rw [enV_app, ← h2, List.drop_left']
  rfl
abbrev rowE (w : World) (v : Value) (l : List Kv) : Prop := w.ownsRow 0 184 2 v l.length (enV l)
/-- A bucket. -/
abbrev enP (v : Value) (l : List Kv) : Part := rowP 0 184 2 v l.length (enV l)
/-- The entry at a place of a row. -/
theorem entry_at {w : World} {n cap : Nat} {pa : Option Addr} {l : List Kv} (h : w.ownsRow 0 184 2 (.slice pa n cap) n (enV l)) {i : Nat} {p : Kv} (hi : l[i]? = some p) : ∃ g, pa = some ⟨g, 0, none⟩ ∧ w.cell? ⟨g, i * 2, none⟩ = some (.string p.1) ∧ w.cell? ⟨g, i * 2 + 1, none⟩ = some (.pointer (some ⟨Int.toNat p.2, 0, none⟩)) := by
  have hl := (List.getElem?_eq_some_iff.1 hi).1
  have hn : l.length * 2 = n * 2 := (enV_len l).symm.trans h.1
  obtain ⟨g, cap', e⟩ := own_form h (by omega)
  cases e
  obtain ⟨k1, k2⟩ := enV_at hi
  exact ⟨g, rfl, (h.cellAt _ (by omega)).trans k1, (h.cellAt _ (by omega)).trans k2⟩
/-- A row's first elements. -/
theorem row_take {w : World} {e : TypeId} {size g n cap k : Nat} {xs : List Value} (h : w.ownsRow 0 e size (.slice (some ⟨g, 0, none⟩) n cap) n xs) (hk : k ≤ n) : w.ownsRow 0 e size (.slice (some ⟨g, 0, none⟩) k cap) k (xs.take (k * size)) := by
  have hle : k * size ≤ n * size := Nat.mul_le_mul_right _ hk
  refine ⟨by rw [List.length_take, h.1]; omega, ?_⟩
  rcases h.2 with ⟨h', _⟩ | ⟨g', cap', cur, h', hb, hg, hnc, hcm, hcs, htake⟩
  · simp at h'
  · simp only [Value.slice.injEq, Option.some.injEq, Addr.mk.injEq, and_true, true_and] at h'
    obtain ⟨rfl, rfl⟩ := h'
    exact .inr ⟨g, cap, cur, rfl, hb, hg, Nat.le_trans hk hnc, hcm, hcs, by rw [← htake, List.take_take, Nat.min_eq_left hle]⟩
/-- A store behind a row's elements, within its room. -/
theorem row_behind {w : World} {e : TypeId} {size g n cap j : Nat} {xs : List Value} {u : Value} (h : w.ownsRow 0 e size (.slice (some ⟨g, 0, none⟩) n cap) n xs) (hj : n * size ≤ j) : (w.setCell ⟨g, j, none⟩ u).ownsRow 0 e size (.slice (some ⟨g, 0, none⟩) n cap) n xs := by
  have := (h.stored j u).1
  rwa [List.set_eq_of_length_le (by rw [h.1]; exact hj)] at this
/-- Slices of a row of them: which they are. -/
def refs (n : Nat) (f : Nat → Value) : List Value := (List.range n).map f
theorem refs_len (n : Nat) (f : Nat → Value) : (refs n f).length = n := by simp [refs]
theorem refs_at {n i : Nat} (f : Nat → Value) (h : i < n) : (refs n f)[i]? = some (f i) := by simp [refs, h]
theorem refs_set {n i : Nat} (f : Nat → Value) (u : Value) : (refs n f).set i u = refs n (updF f i u) := by
  apply List.ext_getElem?
  intro j
  rw [List.getElem?_set]
  by_cases hj : j < n
  · rw [refs_at _ hj, refs_at _ hj, refs_len]
    by_cases e : i = j
    · subst e
      rw [if_pos rfl, if_pos hj, updF_same]
    · rw [if_neg e, updF_other _ _ (Ne.symm e)]
  · have h1 : (refs n f)[j]? = none := List.getElem?_eq_none (by rw [refs_len]; omega)
    have h2 : (refs n (updF f i u))[j]? = none := List.getElem?_eq_none (by rw [refs_len]; omega)
    rw [h1, h2, refs_len]
    split
    · rw [if_neg (by omega)]
    · rfl
theorem refs_take (n k : Nat) (f : Nat → Value) (h : k ≤ n) : (refs n f).take k = refs k f := by
  unfold refs
  rw [← List.map_take, List.take_range, Nat.min_eq_left h]
/-- A row of buckets. -/
abbrev arP (v : Value) (n : Nat) (f : Nat → Value) : Part := rowP 0 181 1 v n (refs n f)
theorem ar_cell {w : World} {g n cap i : Nat} {f : Nat → Value} (h : (arP (.slice (some ⟨g, 0, none⟩) n cap) n f).q w) (hi : i < n) : w.cell? ⟨g, i, none⟩ = some (f i) ∧ w.frozen? ⟨g, i, none⟩ = false :=
  ⟨(World.ownsRow.cellAt h i (by omega)).trans (refs_at f hi), World.ownsRow.frozenAt h i⟩
/-- A cell of a row of buckets is stored. -/
theorem LawF.arSet {F : Nat → Prop} {w0 w : World} {R : Part} {g n cap i : Nat} {f : Nat → Value} (H : LawF F w0 w ((arP (.slice (some ⟨g, 0, none⟩) n cap) n f).and R)) (u : Value) : LawF F w0 (w.setCell ⟨g, i, none⟩ u) ((arP (.slice (some ⟨g, 0, none⟩) n cap) n (updF f i u)).and R) := by
  obtain ⟨h1, h2⟩ := World.ownsRow.stored H.q.1 i u
  rw [refs_set] at h1
  exact H.app0 h1 h2 (.inl rfl)
/-- All of a row of entries is appended to one. -/
theorem run_append_en (w : World) (base : Nat) (ty : TypeId) {v x : Value} {n : Nat} {xs : List Value} {ys : List Kv} (hown : w.ownsRow base 184 2 v n xs) (hx : rowE w x ys) (hn : n + ys.length ≤ 100000) (hb : base ≤ w.heap.size) :
    ∃ v' w', (Builtin.append_ #[181, 181] ty #[v, x]).run Tryz.prog w = .ok v' w' ∧ w'.ownsRow base 184 2 v' (n + ys.length) (xs ++ enV ys) ∧ w.grownBy w' v.ownBlock ∧ (v'.ownBlock = v.ownBlock ∨ v'.ownBlock = some w.heap.size) := by
  obtain ⟨i0, hi, hz0, hz1, hz2⟩ := info_parts info_entry
  rcases hx.2 with ⟨rfl, h0⟩ | ⟨g, cap, cur, rfl, _⟩
  · have hy : ys = [] := List.length_eq_zero_iff.1 h0
    subst hy
    refine ⟨v, w, run_append_owned_none w base 181 ty 184 i0 2 Tryz.underlying181 hi v n xs hown, ?_, gr_refl _ _, .inl rfl⟩
    simpa [enV] using hown
  · obtain ⟨v', w', h1, h2, h3, _, h5⟩ := run_append_own_at (P := Tryz.prog) w base 181 ty 184 i0 (.agg #[.string ⟨#[]⟩, .pointer none]) 2 24 Tryz.underlying181 hi hz0 hz1 hz2 rfl (by decide) v n xs hown ⟨g, 0, none⟩ ys.length cap (enV ys) (enV_len ys) (hx.cells rfl) (enV_cell ys) (by unfold maxLen; omega) (by omega) hb
    exact ⟨v', w', h1, h2, h3, h5⟩
end Go.Proofs.YtkfeafmpaodagaaGreatDoor
