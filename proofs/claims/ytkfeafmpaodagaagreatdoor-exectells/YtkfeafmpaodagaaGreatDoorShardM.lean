/- Shards over lists alone: entries by rising keys, the slab, the list, the judge, the drops. Nothing of the program is run here. Conditions: none. -/
import Derived.Test.YtkfeafmpaodagaaGreatDoorG03Joined
import Derived.Test.YtkfeafmpaodagaaGreatDoorG04Joined
namespace Go.Proofs.YtkfeafmpaodagaaGreatDoor
open Go.RowKit

/-- An item as a value, its bytes with it. -/
structure Iv where
  key : ByteArray
  val : List UInt8
  fl : Int
  exp : Int
  cas : Int
  sec : Int
  seq : Int
  st : Bool
  won : Bool
  seen : Bool
structure Iv.ok (v : Iv) : Prop where
  key : v.key.size ≤ 140737488351232
  val : v.val.length ≤ 140737488351232
  exp : I64 v.exp
  sec : I64 v.sec
  seq : U64 v.seq
/-- The item, its bytes at an address. -/
def itOf (v : Iv) (a : Option Addr) (c : Nat) : It := ⟨v.key, a, v.val.length, c, v.fl, v.exp, v.cas, v.sec, v.seq, v.st, v.won, v.seen⟩
theorem Iv.ok.it {v : Iv} (h : v.ok) (a : Option Addr) (c : Nat) : (itOf v a c).ok :=
  ⟨Nat.le_trans h.key (by decide), Nat.le_trans h.val (by decide), h.exp, h.sec, h.seq⟩
abbrev Ent := Iv × Ck
structure Hs where
  ents : List Ent
  slab : Sb
  ord : Sr
  jd : Js
  drops : List ByteArray
def freshH (bud most : Int) : Hs := ⟨[], freshS bud, freshR most, freshJ, []⟩
def findE (k : ByteArray) (l : List Ent) : Option Ent := l.find? fun e => decide (e.1.key = k)
def delE (k : ByteArray) (l : List Ent) : List Ent := l.filter fun e => decide (e.1.key ≠ k)
def putE (e : Ent) (l : List Ent) : List Ent := (l.filter fun x => ltK x.1.key e.1.key) ++ e :: l.filter fun x => ltK e.1.key x.1.key
def RisingE (l : List Ent) : Prop := l.Pairwise fun a b => ltK a.1.key b.1.key = true
def liveI (i : Iv) (en : En) : Bool := liveN i.exp i.sec i.seq en
def sizeI (i : Iv) : Int := 50 + (i.key.size : Nat) + (i.val.length : Nat)
def hasH (h : Hs) (k : ByteArray) : Bool := (findE k h.ents).isSome
def outH (h : Hs) (k : ByteArray) (e : Ent) : Hs := ⟨delE k h.ents, freeS h.slab e.2, remR h.ord k, h.jd, h.drops⟩
def removeH (h : Hs) (k : ByteArray) : Hs := match findE k h.ents with | none => h | some e => outH h k e
def toldH (h : Hs) (k : ByteArray) : Hs := ⟨h.ents, h.slab, h.ord, h.jd, h.drops ++ [k]⟩
def dropH (h : Hs) (k : ByteArray) : Hs := toldH (removeH h k) k
def livingH (h : Hs) (k : ByteArray) (en : En) : Option Ent := match findE k h.ents with | none => none | some e => if liveI e.1 en then some e else none
def lookH (h : Hs) (k : ByteArray) (en : En) : Hs := match findE k h.ents with | none => h | some e => if liveI e.1 en then h else dropH h k
def useH (sd : Nat) (h : Hs) (k : ByteArray) : Hs := ⟨h.ents, h.slab, hitR h.ord k, touchJ sd h.jd k.data.toList, h.drops⟩
def lessH (had : Option Ent) : Int := match had with | none => 0 | some e => bytesC e.2.1
def admH (sd : Nat) (h : Hs) (k v : ByteArray) : Bool := decide (worthJ sd h.jd v.data.toList < worthJ sd h.jd k.data.toList)
/-- The search for room, in so many steps. -/
def roomN (sd : Nat) (i : Iv) (had : Option Ent) (en : En) : Nat → Hs → Int × Hs
  | 0, h => (5, h)
  | n + 1, h => if fitsS h.slab (sizeI i) (lessH had) then (0, h) else
    match vicR h.ord i.key with
    | none => (5, h)
    | some v => match findE v h.ents with
      | none => (5, h)
      | some e => if liveI e.1 en && had.isNone && !admH sd h i.key v then (8, h) else roomN sd i had en n (dropH h v)
def roomH (sd : Nat) (i : Iv) (had : Option Ent) (en : En) (h : Hs) : Int × Hs := roomN sd i had en (h.ents.length + 1) h
def freedH (h : Hs) (had : Option Ent) : Sb := match had with | none => h.slab | some e => freeS h.slab e.2
def putH (h : Hs) (i : Iv) (had : Option Ent) : Hs :=
  ⟨putE (i, takeCk (freedH h had) (sizeI i)) h.ents, takeS (freedH h had) (sizeI i), (match had with | none => addR h.ord i.key | some _ => h.ord), h.jd, h.drops⟩
def storeH (sd : Nat) (h : Hs) (i : Iv) (en : En) : Int × Hs :=
  if 2048 < sizeI i then (4, h) else
    if (roomH sd i (livingH h i.key en) en (lookH h i.key en)).1 = 0 then (0, putH (roomH sd i (livingH h i.key en) en (lookH h i.key en)).2 i (livingH h i.key en)) else roomH sd i (livingH h i.key en) en (lookH h i.key en)
def updErr (h : Hs) (i : Iv) : Int := match findE i.key h.ents with | none => 6 | some e => if i.val.length = e.1.val.length then 0 else 1
def updH (h : Hs) (i : Iv) : Hs := match findE i.key h.ents with | none => h | some e => if i.val.length = e.1.val.length then ⟨putE (i, e.2) h.ents, h.slab, h.ord, h.jd, h.drops⟩ else h
def quietH (h : Hs) : Hs := ⟨h.ents, h.slab, h.ord, h.jd, []⟩
/-- Of each class no more were made than are there; and their bytes are within the budget. -/
structure FullS (st : Sb) : Prop where
  cnt : ∀ k : Nat, st.made.getD k 0 ≤ (st.inn ++ st.gone).countP fun c => decide (c.1 = (k : Int))
  made : ∀ k : Nat, st.made.getD k 0 = 0 ∨ 64 * ((st.made.getD k 0 : Nat) : Int) ≤ st.bud
theorem fullS_fresh (bud : Int) : FullS (freshS bud) := by
  have h : ∀ k : Nat, (freshS bud).made.getD k 0 = 0 := fun k => by
    show ([0, 0, 0, 0, 0, 0] : List Nat).getD k 0 = 0
    rcases k with _ | _ | _ | _ | _ | _ | k <;> rfl
  exact ⟨fun k => by rw [h]; exact Nat.zero_le _, fun k => .inl (h k)⟩
theorem fullS_free {st : Sb} (h : FullS st) (c : Ck) : FullS (freeS st c) := by
  unfold freeS
  split
  · rename_i hc
    refine ⟨fun k => ?_, h.made⟩
    have hp : (st.inn.erase c ++ (st.gone ++ [c])).Perm (st.inn ++ st.gone) := by
      rw [← List.append_assoc]
      refine List.perm_append_comm.trans ?_
      rw [← List.append_assoc]
      exact List.Perm.append_right _ (List.perm_cons_erase hc).symm
    show st.made.getD k 0 ≤ _
    rw [hp.countP_eq]
    exact h.cnt k
  · exact h
theorem bytes_least {k : Int} (h0 : 0 ≤ k) (h6 : k < 6) : 64 ≤ bytesC k := by
  unfold bytesC
  repeat' split
  all_goals omega
theorem countP_used {l : List Ck} (h : ∀ c ∈ l, 0 ≤ c.1 ∧ c.1 < 6) (p : Ck → Bool) : 64 * ((l.countP p : Nat) : Int) ≤ sumB l := by
  induction l with
  | nil => simp [sumB]
  | cons c l ih =>
    have h1 := ih fun d hd => h d (List.mem_cons_of_mem _ hd)
    have h2 := bytes_least (h c (List.mem_cons_self ..)).1 (h c (List.mem_cons_self ..)).2
    rw [sumB_cons, List.countP_cons]
    split <;> omega
theorem fullS_take {st : Sb} (g : GoodS st) (h : FullS st) (size : Int) : FullS (takeS st size) := by
  unfold takeS
  by_cases he : takeErr st size = 0
  · rw [if_pos he]
    have hb : usedS st + bytesC (clsOf size) ≤ st.bud := by
      unfold takeErr at he
      split at he
      · split at he
        · assumption
        · omega
      · omega
    have hk := cls_lt size
    have hc1 := next_cls st (clsOf size)
    have hnc := next_cases st (clsOf size)
    generalize nextS st (clsOf size) = c at *
    generalize clsOf size = k at *
    unfold addC
    by_cases hg : c ∈ st.gone
    · rw [if_pos hg]
      have hp : (st.inn ++ [c] ++ st.gone.erase c).Perm (st.inn ++ st.gone) := by
        rw [List.append_assoc]
        exact List.Perm.append_left _ (erase_perm hg)
      refine ⟨fun j => ?_, h.made⟩
      show st.made.getD j 0 ≤ _
      rw [hp.countP_eq]
      exact h.cnt j
    · rw [if_neg hg]
      obtain ⟨hno, ec⟩ := hnc.resolve_left fun x => hg x.1
      have hcls : ∀ d ∈ st.inn, 0 ≤ d.1 ∧ d.1 < 6 := fun d hd => by
        have := g.cls d (List.mem_append_left _ hd)
        exact ⟨this.1, this.2.1⟩
      have hu := countP_used hcls fun c => decide (c.1 = (k : Int))
      have hbl := bytes_least (k := (k : Int)) (by omega) (by omega)
      have hg0 : (st.gone.countP fun c => decide (c.1 = (k : Int))) = 0 := List.countP_eq_zero.2 fun d hd => by simpa using hno d hd
      have hck := h.cnt k
      rw [List.countP_append, hg0] at hck
      have eu : usedS st = sumB st.inn := rfl
      refine ⟨fun j => ?_, fun j => ?_⟩
      · show (st.made.set k (st.made.getD k 0 + 1)).getD j 0 ≤ (st.inn ++ [c] ++ st.gone).countP _
        rw [getD_set_nat _ _ _ _ (by rw [g.len]; exact hk), List.countP_append, List.countP_append]
        have hj := h.cnt j
        rw [List.countP_append] at hj
        split
        · rename_i e
          subst e
          have : ([c].countP fun d => decide (d.1 = (k : Int))) = 1 := by simp [hc1]
          rw [this]
          omega
        · omega
      · show (st.made.set k (st.made.getD k 0 + 1)).getD j 0 = 0 ∨ 64 * (((st.made.set k (st.made.getD k 0 + 1)).getD j 0 : Nat) : Int) ≤ st.bud
        rw [getD_set_nat _ _ _ _ (by rw [g.len]; exact hk)]
        split
        · right
          omega
        · exact h.made j
  · rw [if_neg he]
    exact h
structure GoodH (n : Nat) (h : Hs) : Prop where
  rise : RisingE h.ents
  keys : (allR h.ord).Perm (h.ents.map fun e => e.1.key)
  ordG : GoodR h.ord
  slabG : GoodS h.slab
  chunks : (h.ents.map fun e => e.2).Perm h.slab.inn
  cls : ∀ e ∈ h.ents, e.1.ok ∧ sizeI e.1 ≤ 2048 ∧ e.2.1 = (clsOf (sizeI e.1) : Int)
  jdG : GoodJ h.jd
  many : h.slab.inn.length + h.slab.gone.length ≤ h.slab.made.sum
  made : h.slab.made.sum ≤ n
  few : h.ents.length + h.drops.length ≤ n
  full : FullS h.slab
  lim : n ≤ 901 ∨ h.slab.bud ≤ 57600
theorem goodH_mono {n m : Nat} {h : Hs} (g : GoodH n h) (hm : n ≤ m) (hl : m ≤ 901 ∨ h.slab.bud ≤ 57600) : GoodH m h := { g with made := Nat.le_trans g.made hm, few := Nat.le_trans g.few hm, lim := hl }
theorem mem_sum_le : ∀ (l : List Nat) (x : Nat), x ∈ l → x ≤ l.sum
  | [], x, h => by cases h
  | y :: l, x, h => by
    rw [List.sum_cons]
    rcases List.mem_cons.1 h with rfl | h
    · omega
    · have := mem_sum_le l x h
      omega
theorem GoodH.small {n : Nat} {h : Hs} (g : GoodH n h) : Small h.slab n := by
  have h1 := g.many
  have h2 := g.made
  exact ⟨by omega, by omega, fun m hm => Nat.le_trans (mem_sum_le _ _ hm) h2⟩
theorem GoodH.len {n : Nat} {h : Hs} (g : GoodH n h) : h.ents.length ≤ n ∧ h.drops.length ≤ n ∧ (allR h.ord).length = h.ents.length ∧ h.ents.length = h.slab.inn.length := by
  have h1 := g.few
  have h2 := g.keys.length_eq
  have h3 := g.chunks.length_eq
  rw [List.length_map] at h2 h3
  exact ⟨by omega, by omega, h2, h3⟩
/-- However many stores there were: entries, chunks and numbers are few. -/
theorem GoodH.nine {n : Nat} {h : Hs} (g : GoodH n h) : h.ents.length ≤ 901 ∧ Small h.slab 9000 := by
  have h1 := g.len
  rcases g.lim with hn | hb
  · have h2 := g.small
    exact ⟨by omega, ⟨by have := h2.inn; omega, by have := h2.gone; omega, fun m hm => by have := h2.made m hm; omega⟩⟩
  · have hcls : ∀ d ∈ h.slab.inn, 0 ≤ d.1 ∧ d.1 < 6 := fun d hd => by
      have := g.slabG.cls d (List.mem_append_left _ hd)
      exact ⟨this.1, this.2.1⟩
    have hu := countP_used hcls fun _ => true
    rw [show (h.slab.inn.countP fun _ => true) = h.slab.inn.length from congrFun List.countP_true _] at hu
    have hin : h.slab.inn.length ≤ 900 := by
      rcases g.slabG.bud with e | e
      · rw [e]; exact Nat.zero_le _
      · have : usedS h.slab = sumB h.slab.inn := rfl
        omega
    have hm : ∀ k : Nat, h.slab.made.getD k 0 ≤ 900 := fun k => by
      rcases g.full.made k with e | e <;> omega
    have hsum : h.slab.made.sum ≤ 5400 ∧ ∀ m ∈ h.slab.made, m ≤ 900 := by
      have hl := g.slabG.len
      match h.slab.made, hl, hm with
      | [a, b, c, d, e, f], _, hm =>
        have m0 := hm 0
        have m1 := hm 1
        have m2 := hm 2
        have m3 := hm 3
        have m4 := hm 4
        have m5 := hm 5
        simp at m0 m1 m2 m3 m4 m5
        refine ⟨by simp; omega, fun m hm => ?_⟩
        simp at hm
        omega
    have := g.many
    exact ⟨by omega, ⟨by omega, by omega, fun m hm => by have := hsum.2 m hm; omega⟩⟩
theorem GoodH.val {n : Nat} {h : Hs} (g : GoodH n h) {e : Ent} (he : e ∈ h.ents) : e.1.val.length ≤ 3000 := by
  have := (g.cls e he).2.1
  unfold sizeI at this
  omega
theorem goodH_fresh (bud most : Int) (n : Nat) (hn : n ≤ 901) : GoodH n (freshH bud most) :=
  ⟨List.Pairwise.nil, List.Perm.nil, goodR_fresh most, good_freshS bud, List.Perm.nil, fun _ h => (by cases h), good_freshJ, by simp [freshH, freshS], by simp [freshH, freshS], by simp [freshH], fullS_fresh bud, .inl hn⟩
/-- Keys that stand in rising order. -/
theorem findE_some {k : ByteArray} {l : List Ent} {e : Ent} (h : findE k l = some e) : e ∈ l ∧ e.1.key = k := by
  unfold findE at h
  exact ⟨List.mem_of_find?_eq_some h, of_decide_eq_true (List.find?_some (p := fun e : Ent => decide (e.1.key = k)) h)⟩
theorem findE_none {k : ByteArray} {l : List Ent} : findE k l = none ↔ ∀ e ∈ l, e.1.key ≠ k := by
  unfold findE
  rw [List.find?_eq_none]
  simp
theorem rising_key {l : List Ent} (h : RisingE l) {a b : Ent} (ha : a ∈ l) (hb : b ∈ l) (e : a.1.key = b.1.key) : a = b := by
  induction l with
  | nil => cases ha
  | cons x l ih =>
    have h' := List.pairwise_cons.1 h
    rcases List.mem_cons.1 ha with ea | ha
    · rcases List.mem_cons.1 hb with eb | hb
      · rw [ea, eb]
      · exact absurd (ea ▸ e) (ltK_ne (h'.1 b hb))
    · rcases List.mem_cons.1 hb with eb | hb
      · exact absurd (eb ▸ e.symm) (ltK_ne (h'.1 a ha))
      · exact ih h'.2 ha hb
theorem findE_mem {l : List Ent} (h : RisingE l) {e : Ent} (he : e ∈ l) : findE e.1.key l = some e := by
  cases hf : findE e.1.key l with
  | none => exact absurd rfl (findE_none.1 hf e he)
  | some x =>
    have := findE_some hf
    rw [rising_key h this.1 he this.2]
theorem mem_delE {k : ByteArray} {l : List Ent} {e : Ent} : e ∈ delE k l ↔ e ∈ l ∧ e.1.key ≠ k := by simp [delE]
theorem mem_putE {x e : Ent} {l : List Ent} : x ∈ putE e l ↔ x = e ∨ (x ∈ l ∧ x.1.key ≠ e.1.key) := by
  unfold putE
  rw [List.mem_append, List.mem_cons, List.mem_filter, List.mem_filter]
  constructor
  · rintro (⟨h1, h2⟩ | rfl | ⟨h1, h2⟩)
    · exact .inr ⟨h1, ltK_ne h2⟩
    · exact .inl rfl
    · exact .inr ⟨h1, fun e => ltK_ne h2 e.symm⟩
  · rintro (rfl | ⟨h1, h2⟩)
    · exact .inr (.inl rfl)
    · by_cases h3 : ltK x.1.key e.1.key = true
      · exact .inl ⟨h1, h3⟩
      · by_cases h4 : ltK e.1.key x.1.key = true
        · exact .inr (.inr ⟨h1, h4⟩)
        · exact absurd (ltK_total (Bool.eq_false_iff.2 h3) (Bool.eq_false_iff.2 h4)) h2
theorem risingE_del {k : ByteArray} {l : List Ent} (h : RisingE l) : RisingE (delE k l) := h.sublist List.filter_sublist
theorem risingE_put {e : Ent} {l : List Ent} (h : RisingE l) : RisingE (putE e l) := by
  unfold putE RisingE
  rw [List.pairwise_append]
  refine ⟨h.sublist List.filter_sublist, List.pairwise_cons.2 ⟨fun a ha => (List.mem_filter.1 ha).2, h.sublist List.filter_sublist⟩, fun a ha b hb => ?_⟩
  have h1 := (List.mem_filter.1 ha).2
  rcases List.mem_cons.1 hb with rfl | hb
  · exact h1
  · exact ltK_trans h1 (List.mem_filter.1 hb).2
theorem risingE_nodup {l : List Ent} (h : RisingE l) : l.Nodup := List.Pairwise.imp (fun {a b} hab (e : a = b) => ltK_ne hab (by rw [e])) h
theorem risingE_ext {l m : List Ent} (hl : RisingE l) (hm : RisingE m) (h : ∀ e, e ∈ l ↔ e ∈ m) : l = m := by
  have hp : l.Perm m := (List.perm_ext_iff_of_nodup (risingE_nodup hl) (risingE_nodup hm)).2 h
  exact hp.eq_of_pairwise (fun a b _ _ h1 h2 => by have := ltK_asymm h1; rw [h2] at this; cases this) hl hm
theorem perm_del {l : List Ent} (h : RisingE l) {e : Ent} (he : e ∈ l) : l.Perm (e :: delE e.1.key l) := by
  refine (List.perm_ext_iff_of_nodup (risingE_nodup h) (List.nodup_cons.2 ⟨fun hm => (mem_delE.1 hm).2 rfl, (List.filter_sublist).nodup (risingE_nodup h)⟩)).2 fun x => ?_
  rw [List.mem_cons, mem_delE]
  constructor
  · intro hx
    by_cases hk : x.1.key = e.1.key
    · exact .inl (rising_key h hx he hk)
    · exact .inr ⟨hx, hk⟩
  · rintro (rfl | ⟨hx, _⟩)
    · exact he
    · exact hx
theorem perm_put {l : List Ent} (h : RisingE l) (e : Ent) : (putE e l).Perm (e :: delE e.1.key l) := by
  refine (List.perm_ext_iff_of_nodup (risingE_nodup (risingE_put h)) (List.nodup_cons.2 ⟨fun hm => (mem_delE.1 hm).2 rfl, (List.filter_sublist).nodup (risingE_nodup h)⟩)).2 fun x => ?_
  rw [List.mem_cons, mem_delE, mem_putE]
theorem delE_not {l : List Ent} {k : ByteArray} (h : findE k l = none) : delE k l = l := by
  unfold delE
  rw [List.filter_eq_self]
  intro e he
  exact decide_eq_true (findE_none.1 h e he)
theorem find_put {l : List Ent} (h : RisingE l) (e : Ent) : findE e.1.key (putE e l) = some e := findE_mem (risingE_put h) (mem_putE.2 (.inl rfl))
theorem find_put_other {l : List Ent} (h : RisingE l) {e : Ent} {k : ByteArray} (hk : k ≠ e.1.key) : findE k (putE e l) = findE k l := by
  cases hf : findE k l with
  | none =>
    rw [findE_none] at hf ⊢
    intro x hx
    rcases mem_putE.1 hx with rfl | ⟨hx, _⟩
    · exact fun e' => hk e'.symm
    · exact hf x hx
  | some x =>
    obtain ⟨h1, rfl⟩ := findE_some hf
    exact findE_mem (risingE_put h) (mem_putE.2 (.inr ⟨h1, hk⟩))
theorem find_del_other {l : List Ent} (h : RisingE l) {k v : ByteArray} (hk : k ≠ v) : findE k (delE v l) = findE k l := by
  cases hf : findE k l with
  | none =>
    rw [findE_none] at hf ⊢
    exact fun x hx => hf x (mem_delE.1 hx).1
  | some x =>
    obtain ⟨h1, rfl⟩ := findE_some hf
    exact findE_mem (risingE_del h) (mem_delE.2 ⟨h1, hk⟩)
theorem find_del_same {l : List Ent} {k : ByteArray} : findE k (delE k l) = none := findE_none.2 fun _ hx => (mem_delE.1 hx).2
theorem keys_del (k : ByteArray) (l : List Ent) : (delE k l).map (fun e => e.1.key) = without (l.map fun e => e.1.key) k := by
  unfold delE without
  rw [List.filter_map]
  rfl
/-- One is taken out. -/
theorem goodH_out {n : Nat} {h : Hs} (g : GoodH n h) {k : ByteArray} {e : Ent} (hf : findE k h.ents = some e) : GoodH n (outH h k e) ∧ (outH h k e).ents.length + 1 = h.ents.length := by
  obtain ⟨he, rfl⟩ := findE_some hf
  have hp := perm_del g.rise he
  have hl := hp.length_eq
  rw [List.length_cons] at hl
  have hin : e.2 ∈ h.slab.inn := g.chunks.mem_iff.1 (List.mem_map.2 ⟨e, he, rfl⟩)
  have hfs : freeS h.slab e.2 = ⟨h.slab.bud, h.slab.inn.erase e.2, h.slab.gone ++ [e.2], h.slab.made⟩ := if_pos hin
  have hil := List.length_erase_of_mem hin
  have hpos : 0 < h.slab.inn.length := List.length_pos_of_mem hin
  refine ⟨⟨risingE_del g.rise, ?_, good_rem g.ordG _, good_free g.slabG _, ?_, fun x hx => g.cls x (mem_delE.1 hx).1, g.jdG, ?_, ?_, ?_, fullS_free g.full _, ?_⟩, by show (delE e.1.key h.ents).length + 1 = _; omega⟩
  · show (allR (remR h.ord e.1.key)).Perm ((delE e.1.key h.ents).map _)
    rw [all_rem, keys_del]
    exact g.keys.filter _
  · show ((delE e.1.key h.ents).map _).Perm (freeS h.slab e.2).inn
    rw [hfs]
    have h1 : (e.2 :: (delE e.1.key h.ents).map fun e => e.2).Perm h.slab.inn := ((hp.map fun e : Ent => e.2).symm.trans g.chunks)
    exact (h1.trans (List.perm_cons_erase hin)).cons_inv
  · show (freeS h.slab e.2).inn.length + (freeS h.slab e.2).gone.length ≤ (freeS h.slab e.2).made.sum
    rw [hfs]
    have := g.many
    simp only [List.length_append, List.length_cons, List.length_nil]
    omega
  · show (freeS h.slab e.2).made.sum ≤ n
    rw [hfs]
    exact g.made
  · show (delE e.1.key h.ents).length + h.drops.length ≤ n
    have := g.few
    omega
  · show n ≤ 901 ∨ (freeS h.slab e.2).bud ≤ 57600
    rw [hfs]
    exact g.lim
theorem goodH_remove {n : Nat} {h : Hs} (g : GoodH n h) (k : ByteArray) : GoodH n (removeH h k) := by
  unfold removeH
  split
  · exact g
  · rename_i e hf
    exact (goodH_out g hf).1
theorem drop_found {h : Hs} {k : ByteArray} {e : Ent} (hf : findE k h.ents = some e) : dropH h k = toldH (outH h k e) k := by
  unfold dropH removeH
  rw [hf]
theorem goodH_drop {n : Nat} {h : Hs} (g : GoodH n h) {k : ByteArray} {e : Ent} (hf : findE k h.ents = some e) : GoodH n (dropH h k) ∧ (dropH h k).ents.length + 1 = h.ents.length ∧ (dropH h k).drops = h.drops ++ [k] := by
  rw [drop_found hf]
  have g1 := goodH_out g hf
  have hfew := g.few
  refine ⟨{ g1.1 with few := ?_ }, g1.2, rfl⟩
  have := g1.2
  show (outH h k e).ents.length + (h.drops ++ [k]).length ≤ n
  rw [List.length_append, List.length_singleton]
  omega
theorem goodH_look {n : Nat} {h : Hs} (g : GoodH n h) (k : ByteArray) (en : En) : GoodH n (lookH h k en) := by
  unfold lookH
  split
  · exact g
  · rename_i e hf
    split
    · exact g
    · exact (goodH_drop g hf).1
theorem goodH_quiet {n : Nat} {h : Hs} (g : GoodH n h) : GoodH n (quietH h) := { g with few := by show h.ents.length + 0 ≤ n; have := g.few; omega }
theorem goodH_use {n : Nat} {h : Hs} (g : GoodH n h) (sd : Nat) (k : ByteArray) : GoodH n (useH sd h k) := by
  refine { g with keys := ?_, ordG := good_hit g.ordG k, jdG := good_touch g.jdG _ _ }
  show (allR (hitR h.ord k)).Perm _
  by_cases hk : k ∈ allR h.ord
  · rw [all_hit hk]
    have h1 : (k :: without (allR h.ord) k).Perm (allR h.ord) := by
      refine (List.perm_ext_iff_of_nodup (List.nodup_cons.2 ⟨fun hm => (mem_without.1 hm).2 rfl, (without_sub _ _).nodup g.ordG.nodup⟩) g.ordG.nodup).2 fun x => ?_
      rw [List.mem_cons, mem_without]
      constructor
      · rintro (rfl | ⟨hx, _⟩)
        · exact hk
        · exact hx
      · intro hx
        by_cases e : x = k
        · exact .inl e
        · exact .inr ⟨hx, e⟩
    exact (List.perm_append_singleton k _).trans (h1.trans g.keys)
  · rw [hit_out hk]
    exact g.keys
/-- What a key has behind a look at it. -/
theorem living_look (h : Hs) (k : ByteArray) (en : En) : livingH h k en = findE k (lookH h k en).ents := by
  unfold livingH lookH
  cases hf : findE k h.ents with
  | none => exact hf.symm
  | some e =>
    dsimp only
    by_cases hl : liveI e.1 en = true
    · rw [if_pos hl, if_pos hl, hf]
    · rw [if_neg hl, if_neg hl, drop_found hf]
      exact find_del_same.symm
theorem vic_some_mem {st : Sr} {k v : ByteArray} (h : vicR st k = some v) : v ∈ allR st ∧ v ≠ k := by
  unfold vicR at h
  exact ⟨List.mem_of_find?_eq_some h, of_decide_eq_true (List.find?_some (p := fun x : ByteArray => decide (x ≠ k)) h)⟩
theorem vic_none_all {st : Sr} {k : ByteArray} (h : vicR st k = none) : ∀ x ∈ allR st, x = k := by
  unfold vicR at h
  rw [List.find?_eq_none] at h
  intro x hx
  have := h x hx
  simpa using this
theorem key_found {n : Nat} {h : Hs} (g : GoodH n h) {v : ByteArray} (hv : v ∈ allR h.ord) : ∃ e, findE v h.ents = some e := by
  obtain ⟨e, he, rfl⟩ := List.mem_map.1 (g.keys.mem_iff.1 hv)
  exact ⟨e, findE_mem g.rise he⟩
/-- One step of the search for room. -/
theorem room_cases {n : Nat} {h : Hs} (g : GoodH n h) (sd : Nat) (i : Iv) (had : Option Ent) (en : En) :
    (fitsS h.slab (sizeI i) (lessH had) = true ∧ roomH sd i had en h = (0, h)) ∨
    (fitsS h.slab (sizeI i) (lessH had) = false ∧ ((vicR h.ord i.key = none ∧ roomH sd i had en h = (5, h)) ∨
      ∃ v e, vicR h.ord i.key = some v ∧ findE v h.ents = some e ∧ v ≠ i.key ∧ v.size ≤ 140737488351232 ∧
        ((liveI e.1 en = true ∧ had = none ∧ admH sd h i.key v = false ∧ roomH sd i had en h = (8, h)) ∨
         ((liveI e.1 en = false ∨ had ≠ none ∨ admH sd h i.key v = true) ∧ roomH sd i had en h = roomH sd i had en (dropH h v))))) := by
  have hR : roomH sd i had en h = roomN sd i had en (h.ents.length + 1) h := rfl
  rw [hR]
  cases hf : fitsS h.slab (sizeI i) (lessH had) with
  | true => exact .inl ⟨rfl, by unfold roomN; rw [hf]; rfl⟩
  | false =>
    refine .inr ⟨rfl, ?_⟩
    cases hv : vicR h.ord i.key with
    | none => exact .inl ⟨rfl, by unfold roomN; rw [hf, hv]; rfl⟩
    | some v =>
      obtain ⟨hm, hne⟩ := vic_some_mem hv
      obtain ⟨e, he⟩ := key_found g hm
      have hsz : v.size ≤ 140737488351232 := by
        have := findE_some he
        rw [← this.2]
        exact (g.cls e this.1).1.key
      refine .inr ⟨v, e, rfl, he, hne, hsz, ?_⟩
      have hstep : roomN sd i had en (h.ents.length + 1) h = if liveI e.1 en && had.isNone && !admH sd h i.key v then (8, h) else roomN sd i had en h.ents.length (dropH h v) := by
        conv => lhs; unfold roomN
        rw [hf, hv]
        dsimp only
        rw [he]
        rfl
      have hlen := (goodH_drop g he).2.1
      rw [hstep]
      cases hc : (liveI e.1 en && had.isNone && !admH sd h i.key v) with
      | true =>
        simp only [Bool.and_eq_true, Bool.not_eq_true', Option.isNone_iff_eq_none] at hc
        exact .inl ⟨hc.1.1, hc.1.2, hc.2, rfl⟩
      | false =>
        refine .inr ⟨?_, ?_⟩
        · cases h1 : liveI e.1 en with
          | false => exact .inl rfl
          | true =>
            cases h2 : had with
            | some x => exact .inr (.inl (by simp))
            | none =>
              rw [h1, h2] at hc
              simp at hc
              exact .inr (.inr hc)
        · show roomN sd i had en h.ents.length (dropH h v) = roomN sd i had en ((dropH h v).ents.length + 1) (dropH h v)
          rw [hlen]
theorem find_drop_other {n : Nat} {h : Hs} (g : GoodH n h) {k v : ByteArray} {e : Ent} (hf : findE v h.ents = some e) (hk : k ≠ v) : findE k (dropH h v).ents = findE k h.ents := by
  rw [drop_found hf]
  exact find_del_other g.rise hk
/-- What the search leaves. -/
structure Roomy (n : Nat) (i : Iv) (had : Option Ent) (h h' : Hs) : Prop where
  good : GoodH n h'
  find : findE i.key h'.ents = findE i.key h.ents
  jd : h'.jd = h.jd
  bud : h'.slab.bud = h.slab.bud
  most : h'.ord.most = h.ord.most
  drops : ∃ l, h'.drops = h.drops ++ l ∧ (∀ k ∈ l, k ≠ i.key)
theorem free_bud (st : Sb) (c : Ck) : (freeS st c).bud = st.bud := by unfold freeS; split <;> rfl
theorem take_bud (st : Sb) (s : Int) : (takeS st s).bud = st.bud := by
  unfold takeS
  split
  · unfold addC
    split <;> rfl
  · rfl
theorem room_good {n : Nat} (sd : Nat) (i : Iv) (had : Option Ent) (en : En) : ∀ (m : Nat) (h : Hs), h.ents.length = m → GoodH n h → Roomy n i had h (roomH sd i had en h).2 ∧ ((roomH sd i had en h).1 = 0 → fitsS (roomH sd i had en h).2.slab (sizeI i) (lessH had) = true) ∧ ((roomH sd i had en h).1 = 0 ∨ (roomH sd i had en h).1 = 5 ∨ (roomH sd i had en h).1 = 8) := by
  intro m
  induction m with
  | zero =>
    intro h hm g
    have hid : Roomy n i had h h := ⟨g, rfl, rfl, rfl, rfl, [], by simp, fun _ hk => (by cases hk)⟩
    rcases room_cases g sd i had en with ⟨hf, hr⟩ | ⟨hf, ⟨hv, hr⟩ | ⟨v, e, hv, he, hne, hsz, hc⟩⟩
    · rw [hr]
      exact ⟨hid, fun _ => hf, .inl rfl⟩
    · rw [hr]
      exact ⟨hid, fun h0 => absurd (show (5 : Int) = 0 from h0) (by decide), .inr (.inl rfl)⟩
    · have := (goodH_drop g he).2.1
      omega
  | succ m ih =>
    intro h hm g
    have hid : Roomy n i had h h := ⟨g, rfl, rfl, rfl, rfl, [], by simp, fun _ hk => (by cases hk)⟩
    rcases room_cases g sd i had en with ⟨hf, hr⟩ | ⟨hf, ⟨hv, hr⟩ | ⟨v, e, hv, he, hne, hsz, ⟨_, _, _, hr⟩ | ⟨_, hr⟩⟩⟩
    · rw [hr]
      exact ⟨hid, fun _ => hf, .inl rfl⟩
    · rw [hr]
      exact ⟨hid, fun h0 => absurd (show (5 : Int) = 0 from h0) (by decide), .inr (.inl rfl)⟩
    · rw [hr]
      exact ⟨hid, fun h0 => absurd (show (8 : Int) = 0 from h0) (by decide), .inr (.inr rfl)⟩
    · obtain ⟨g1, hl, hd⟩ := goodH_drop g he
      have hp := ih (dropH h v) (by omega) g1
      rw [← hr] at hp
      refine ⟨?_, hp.2⟩
      obtain ⟨k1, k2, k3, k4, k5, l, k6, k7⟩ := hp.1
      have e1 := drop_found he
      refine ⟨k1, k2.trans (find_drop_other g he (fun e => hne e.symm)), k3.trans (by rw [e1]; rfl), k4.trans (by rw [e1]; exact free_bud _ _), k5.trans (by rw [e1]; rfl), v :: l, ?_, ?_⟩
      · rw [k6, hd, List.append_assoc, List.singleton_append]
      · intro k hk
        rcases List.mem_cons.1 hk with rfl | hk
        · exact hne
        · exact k7 k hk
/-- What is stored. -/
theorem fits_take {st : Sb} (had : Option Ent) {h : Hs} (hs : h.slab = st) (hin : ∀ e, had = some e → e.2 ∈ st.inn) {size : Int} (hf : fitsS st size (lessH had) = true) : takeErr (freedH h had) size = 0 := by
  unfold fitsS at hf
  obtain ⟨h1, h2, h3, h4⟩ := of_decide_eq_true hf
  unfold takeErr
  rw [if_pos h1]
  cases had with
  | none =>
    have e1 : lessH none = 0 := rfl
    rw [e1] at h4
    rw [if_pos]
    show usedS h.slab + bytesC (clsOf size) ≤ h.slab.bud
    rw [hs]
    omega
  | some e =>
    have hi := hin e rfl
    have e1 : lessH (some e) = bytesC e.2.1 := rfl
    have e2 : freedH h (some e) = ⟨st.bud, st.inn.erase e.2, st.gone ++ [e.2], st.made⟩ := by show freeS h.slab e.2 = _; rw [hs]; exact if_pos hi
    rw [e1] at h4
    rw [e2, if_pos]
    show sumB (st.inn.erase e.2) + bytesC (clsOf size) ≤ st.bud
    rw [sumB_erase _ _ hi]
    have e3 : usedS st = sumB st.inn := rfl
    omega
theorem sum_set : ∀ (l : List Nat) (k x : Nat), k < l.length → (l.set k x).sum + l.getD k 0 = l.sum + x
  | [], k, x, h => by simp at h
  | y :: l, 0, x, h => by simp [List.getD]; omega
  | y :: l, k + 1, x, h => by
    have := sum_set l k x (by simpa using h)
    simp [List.getD] at this ⊢
    omega
theorem take_ok {st : Sb} (g : GoodS st) {size : Int} (h : takeErr st size = 0) : takeCk st size = nextS st (clsOf size) ∧ (takeS st size).inn = st.inn ++ [takeCk st size] ∧ (takeCk st size).1 = (clsOf size : Int) ∧
    (takeS st size).inn.length + (takeS st size).gone.length + st.made.sum = st.inn.length + st.gone.length + (takeS st size).made.sum ∧ (takeS st size).made.sum ≤ st.made.sum + 1 := by
  have e1 : takeCk st size = nextS st (clsOf size) := by unfold takeCk; rw [if_pos h]
  have e2 : takeS st size = addC st (clsOf size) (nextS st (clsOf size)) := by unfold takeS; rw [if_pos h]
  have hk := cls_lt size
  have hl := g.len
  refine ⟨e1, ?_, by rw [e1]; exact next_cls _ _, ?_⟩
  · rw [e2, e1]
    unfold addC
    split <;> rfl
  · rw [e2]
    unfold addC
    split
    · rename_i hm
      have := List.length_erase_of_mem hm
      have hp := List.length_pos_of_mem hm
      simp only [List.length_append, List.length_singleton]
      omega
    · have := sum_set st.made (clsOf size) (st.made.getD (clsOf size) 0 + 1) (by omega)
      simp only [List.length_append, List.length_singleton]
      omega
theorem goodH_put {n : Nat} {h : Hs} (g : GoodH n h) {i : Iv} (hi : i.ok) (hsz : sizeI i ≤ 2048) {had : Option Ent} (hh : findE i.key h.ents = had) (hf : fitsS h.slab (sizeI i) (lessH had) = true) (hfew : h.ents.length + h.drops.length < n + 1) (hl : n ≤ 900 ∨ h.slab.bud ≤ 57600) : GoodH (n + 1) (putH h i had) := by
  have hin : ∀ e, had = some e → e.2 ∈ h.slab.inn := fun e he => g.chunks.mem_iff.1 (List.mem_map.2 ⟨e, (findE_some (hh.trans he)).1, rfl⟩)
  have ht := fits_take had rfl hin hf
  have hpp := perm_put g.rise (i, takeCk (freedH h had) (sizeI i))
  have hlen := hpp.length_eq
  -- the slab ahead of the taking
  have fg : GoodS (freedH h had) ∧ (freedH h had).inn.Perm ((delE i.key h.ents).map fun e => e.2) ∧ (freedH h had).inn.length + (freedH h had).gone.length ≤ (freedH h had).made.sum ∧ (freedH h had).made.sum ≤ n ∧ FullS (freedH h had) ∧ (freedH h had).bud = h.slab.bud := by
    cases had with
    | none =>
      rw [delE_not hh]
      exact ⟨g.slabG, g.chunks.symm, g.many, g.made, g.full, rfl⟩
    | some e =>
      have g1 := (goodH_out g hh).1
      exact ⟨g1.slabG, g1.chunks.symm, g1.many, g1.made, g1.full, free_bud _ _⟩
  obtain ⟨t1, t2, t3, t4, t5⟩ := take_ok fg.1 ht
  refine ⟨risingE_put g.rise, ?_, ?_, good_take fg.1 _, ?_, ?_, g.jdG, ?_, ?_, ?_, fullS_take fg.1 fg.2.2.2.2.1 _, ?_⟩
  · have h1 : ((putE (i, takeCk (freedH h had) (sizeI i)) h.ents).map fun e => e.1.key).Perm (i.key :: (delE i.key h.ents).map fun e => e.1.key) := hpp.map fun e : Ent => e.1.key
    refine List.Perm.trans ?_ h1.symm
    rw [keys_del]
    cases had with
    | none =>
      have hno : ¬ i.key ∈ allR h.ord := fun hm => by
        obtain ⟨e, he⟩ := key_found g hm
        rw [hh] at he
        cases he
      show (allR (addR h.ord i.key)).Perm _
      rw [(add_out hno).2, without_not (fun hm => hno (g.keys.mem_iff.2 hm))]
      show (h.ord.trial ++ [i.key] ++ h.ord.safe).Perm _
      rw [List.append_assoc]
      exact (List.perm_middle).trans (g.keys.cons _)
    | some e =>
      show (allR h.ord).Perm _
      have hp := (perm_del g.rise (findE_some hh).1).map fun e : Ent => e.1.key
      rw [List.map_cons, (findE_some hh).2, keys_del] at hp
      exact g.keys.trans hp
  · cases had with
    | none => exact goodR_add g.ordG _
    | some e => exact g.ordG
  · show ((putE (i, takeCk (freedH h had) (sizeI i)) h.ents).map fun e => e.2).Perm (takeS (freedH h had) (sizeI i)).inn
    rw [t2]
    exact (hpp.map fun e : Ent => e.2).trans ((List.Perm.cons _ fg.2.1.symm).trans (List.perm_append_singleton _ _).symm)
  · intro e he
    rcases mem_putE.1 he with rfl | ⟨he, _⟩
    · exact ⟨hi, hsz, t3⟩
    · exact g.cls e he
  · show (takeS (freedH h had) (sizeI i)).inn.length + _ ≤ _
    have := fg.2.2.1
    show (takeS (freedH h had) (sizeI i)).inn.length + (takeS (freedH h had) (sizeI i)).gone.length ≤ (takeS (freedH h had) (sizeI i)).made.sum
    omega
  · show (takeS (freedH h had) (sizeI i)).made.sum ≤ n + 1
    have := fg.2.2.2.1
    omega
  · show (putE (i, takeCk (freedH h had) (sizeI i)) h.ents).length + h.drops.length ≤ n + 1
    rw [hlen, List.length_cons]
    cases had with
    | none =>
      rw [show (i, takeCk (freedH h none) (sizeI i)).1.key = i.key from rfl, delE_not hh]
      omega
    | some e =>
      have hp := (perm_del g.rise (findE_some hh).1).length_eq
      rw [(findE_some hh).2, List.length_cons] at hp
      show (delE i.key h.ents).length + 1 + h.drops.length ≤ n + 1
      omega
  · show n + 1 ≤ 901 ∨ (takeS (freedH h had) (sizeI i)).bud ≤ 57600
    rw [take_bud, fg.2.2.2.2.2]
    exact hl.imp Nat.succ_le_succ id
theorem goodH_upd {n : Nat} {h : Hs} (g : GoodH n h) {i : Iv} (hi : i.ok) : GoodH n (updH h i) := by
  unfold updH
  cases hf : findE i.key h.ents with
  | none => exact g
  | some e =>
    dsimp only
    by_cases hl : i.val.length = e.1.val.length
    · rw [if_pos hl]
      obtain ⟨he, hk⟩ := findE_some hf
      have hp := perm_del g.rise he
      rw [hk] at hp
      have hpp := perm_put g.rise (i, e.2)
      have hlen := hpp.length_eq.trans hp.length_eq.symm
      have hsz : sizeI i = sizeI e.1 := by unfold sizeI; rw [hk, hl]
      refine ⟨risingE_put g.rise, ?_, g.ordG, g.slabG, ?_, ?_, g.jdG, g.many, g.made, ?_, g.full, g.lim⟩
      · have h1 := hpp.map fun e : Ent => e.1.key
        have h2 := hp.map fun e : Ent => e.1.key
        rw [List.map_cons] at h1 h2
        rw [hk] at h2
        exact g.keys.trans (h2.trans h1.symm)
      · exact ((hpp.map fun e : Ent => e.2).trans (hp.map fun e : Ent => e.2).symm).trans g.chunks
      · intro x hx
        rcases mem_putE.1 hx with rfl | ⟨hx, _⟩
        · have := g.cls e he
          exact ⟨hi, by rw [hsz]; exact this.2.1, by rw [hsz]; exact this.2.2⟩
        · exact g.cls x hx
      · show (putE (i, e.2) h.ents).length + h.drops.length ≤ n
        rw [hlen]
        exact g.few
    · rw [if_neg hl]
      exact g
theorem look_drops {h : Hs} {k : ByteArray} {en : En} : (lookH h k en).jd = h.jd ∧ (lookH h k en).slab.bud = h.slab.bud ∧ (lookH h k en).ord.most = h.ord.most := by
  unfold lookH
  split
  · exact ⟨rfl, rfl, rfl⟩
  · rename_i e hf
    split
    · exact ⟨rfl, rfl, rfl⟩
    · rw [drop_found hf]
      exact ⟨rfl, free_bud _ _, rfl⟩
theorem goodH_store {n : Nat} {h : Hs} (g : GoodH n h) (sd : Nat) {i : Iv} (hi : i.ok) (en : En) (hl : n ≤ 900 ∨ h.slab.bud ≤ 57600) : GoodH (n + 1) (storeH sd h i en).2 := by
  unfold storeH
  by_cases hsz : 2048 < sizeI i
  · rw [if_pos hsz]
    exact goodH_mono g (Nat.le_succ n) (hl.imp Nat.succ_le_succ id)
  · rw [if_neg hsz]
    have gl := goodH_look g i.key en
    obtain ⟨rm, r0, _⟩ := room_good sd i (livingH h i.key en) en _ _ rfl gl
    have hb : (roomH sd i (livingH h i.key en) en (lookH h i.key en)).2.slab.bud = h.slab.bud := rm.bud.trans (look_drops (en := en)).2.1
    by_cases h0 : (roomH sd i (livingH h i.key en) en (lookH h i.key en)).1 = 0
    · rw [if_pos h0]
      have hfew := rm.good.few
      exact goodH_put rm.good hi (by omega) (rm.find.trans (living_look h i.key en).symm) (r0 h0) (by omega) (by rw [hb]; exact hl)
    · rw [if_neg h0]
      exact goodH_mono rm.good (Nat.le_succ n) (by rw [hb]; exact hl.imp Nat.succ_le_succ id)
end Go.Proofs.YtkfeafmpaodagaaGreatDoor
