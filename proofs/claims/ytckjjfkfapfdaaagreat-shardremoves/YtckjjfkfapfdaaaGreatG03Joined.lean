/- Bytes that lie in memory, and texts made of them. Conditions: none of the program's variables is read. Slabs over lists of chunks alone: nothing of the program is run here. Conditions: none. Lists of keys in two rows, over lists alone: nothing of the program is run here. Conditions: none. -/
import Derived.Test.YtckjjfkfapfdaaaGreatG00Joined
import Derived.Laws.IdiomStrings
namespace Go.Proofs.YtckjjfkfapfdaaaGreat
open Go.RowKit

/-- Numbers that are bytes. -/
def Byt (zs : List Int) : Prop := ∀ z ∈ zs, 0 ≤ z ∧ z ≤ 255
/-- Bytes, given as numbers, as a string. -/
def strOf (zs : List Int) : ByteArray := ⟨(zs.map fun z => UInt8.ofNat z.toNat).toArray⟩
/-- Bytes as numbers. -/
def ints (l : List UInt8) : List Int := l.map fun c => (c.toNat : Int)
theorem ints_app (a b : List UInt8) : ints (a ++ b) = ints a ++ ints b := by unfold ints; rw [List.map_append]
theorem ints_len (a : List UInt8) : (ints a).length = a.length := by unfold ints; rw [List.length_map]
theorem ints_byt (l : List UInt8) : Byt (ints l) := by
  intro z hz
  unfold ints at hz
  obtain ⟨c, _, rfl⟩ := List.mem_map.1 hz
  have := c.toNat_lt
  omega
theorem strOf_ints (l : List UInt8) : strOf (ints l) = ⟨l.toArray⟩ := by
  unfold strOf ints
  rw [List.map_map]
  congr 2
  conv => rhs; rw [← List.map_id l]
  apply List.map_congr_left
  intro c _
  simp
/-- Bytes that lie in memory: a slice of them; none of them, or at least one. -/
structure Row1 (w : World) (a : Option Addr) (len cap : Nat) (es : List Int) (b off : Nat) : Prop where
  at_ : a = some ⟨b, off, none⟩
  one : 1 ≤ len
  cap_ : len ≤ cap
  len_ : es.length = len
  bd : Byt es
  cell : ∀ i, i < len → w.cell? ⟨b, off + i, none⟩ = some (.int .u8 (es.getD i 0))
  old : b < w.heap.size
def Bs (w : World) (a : Option Addr) (len cap : Nat) (es : List Int) : Prop :=
  (len = 0 ∧ es = [] ∧ (a = none → cap = 0)) ∨ ∃ b off, Row1 w a len cap es b off
theorem Row1.on {w w' : World} {a : Option Addr} {len cap : Nat} {es : List Int} {b off : Nat} (h : Row1 w a len cap es b off) (hb : Below w.heap.size w w') : Row1 w' a len cap es b off :=
  ⟨h.at_, h.one, h.cap_, h.len_, h.bd, fun i hi => (hb.cell (p := ⟨b, off + i, none⟩) h.old).trans (h.cell i hi), Nat.lt_of_lt_of_le h.old hb.size⟩
theorem Bs.on {w w' : World} {a : Option Addr} {len cap : Nat} {es : List Int} (h : Bs w a len cap es) (hb : Below w.heap.size w w') : Bs w' a len cap es := by
  rcases h with h | ⟨b, off, r⟩
  · exact .inl h
  · exact .inr ⟨b, off, r.on hb⟩
theorem Bs.len_ {w : World} {a : Option Addr} {len cap : Nat} {es : List Int} (h : Bs w a len cap es) : es.length = len := by
  rcases h with ⟨h1, h2, _⟩ | ⟨b, off, r⟩
  · rw [h1, h2]; rfl
  · exact r.len_
theorem Bs.bd {w : World} {a : Option Addr} {len cap : Nat} {es : List Int} (h : Bs w a len cap es) : Byt es := by
  rcases h with ⟨h1, h2, _⟩ | ⟨b, off, r⟩
  · rw [h2]; intro z hz; cases hz
  · exact r.bd
theorem add_at (b off i : Nat) : (⟨b, off, none⟩ : Addr).add i = ⟨b, off + i, none⟩ := by unfold Addr.add; split <;> simp_all
/-- 'string(x)' of bytes that lie in memory. -/
theorem conv_bs {w : World} {a : Option Addr} {len cap : Nat} {es : List Int} (h : Bs w a len cap es) :
    (convert 31 9 (.slice a len cap)).run Tryz.prog w = .ok (.string (strOf es)) w := by
  rcases h with ⟨rfl, rfl, _⟩ | ⟨b, off, r⟩
  · rw [run_convert_bytes_string w 31 9 5 _ 0 cap Tryz.underlying31 Tryz.underlying5 Tryz.underlying9]
    cases a <;> simp [Conv.bytesToString, loadCells] <;> rfl
  · rw [r.at_]
    have hn := r.len_
    have h := run_convert_bytes_back (P := Tryz.prog) w 31 9 5 ⟨b, off, none⟩ cap (es.map fun z => UInt8.ofNat z.toNat) Tryz.underlying31 Tryz.underlying5 Tryz.underlying9 (fun j hj => by
      have hj' : j < es.length := by simpa using hj
      rw [add_at, r.cell j (by omega)]
      have := r.bd _ (List.getElem_mem hj')
      simp only [List.getElem_map, UInt8.toNat_ofNat', List.getD, List.getElem?_eq_getElem hj', Option.getD_some]
      congr 2
      omega)
    rw [List.length_map, hn] at h
    exact h
theorem getD_ints (l : List UInt8) (i : Nat) (h : i < l.length) : (ints l).getD i 0 = (l[i].toNat : Int) := by
  unfold ints
  simp [List.getD, List.getElem?_eq_getElem h]
/-- '[]byte(s)': a row of its own that holds the bytes. -/
theorem bytes_of (S : ByteArray) (w : World) : ∃ C W3, (convert 9 31 (.string S)).run Tryz.prog w = .ok (.slice (some ⟨w.heap.size, 0, none⟩) S.size C) W3 ∧ S.size ≤ C ∧
    (∀ i, i < S.size → W3.cell? ⟨w.heap.size, i, none⟩ = some (.int .u8 ((ints S.data.toList).getD i 0))) ∧ (∀ i, i < S.size → W3.frozen? ⟨w.heap.size, i, none⟩ = false) ∧ Below w.heap.size w W3 ∧ w.heap.size < W3.heap.size := by
  have hr := run_bytes_of_string (P := Tryz.prog) w 9 31 5 S Tryz.underlying9 Tryz.underlying31 Tryz.underlying5
  have hge := grownCap_ge w S.size 0 5
  obtain ⟨C, hC⟩ : ∃ C, C = grownCap w S.size 0 5 := ⟨_, rfl⟩
  rw [← hC] at hr hge
  have hh : (w.drew.alloc (.cells (bytesRow S C) 5 ((bytesRow S C).size, (bytesRow S C).size + 1))).heap[w.heap.size]? = some (.cells (bytesRow S C) 5 ((bytesRow S C).size, (bytesRow S C).size + 1)) := by
    show (w.heap.push _)[w.heap.size]? = _
    simp
  have hsz : (bytesRow S C).size = C := by
    unfold bytesRow
    rw [Array.size_append, Array.size_map, Array.size_replicate]
    have : S.data.size = S.size := rfl
    omega
  refine ⟨C, _, hr, hge, fun i hi => ?_, fun i hi => ?_, ?_, ?_⟩
  · unfold World.cell?
    rw [hh]
    have hi2 : i < S.data.toList.length := by rw [Array.length_toList]; exact hi
    show (bytesRow S C)[i]? = _
    rw [getD_ints _ _ hi2]
    unfold bytesRow
    rw [Array.getElem?_append_left (by rw [Array.size_map]; exact hi), Array.getElem?_map]
    have hi3 : i < S.data.size := hi
    rw [Array.getElem?_eq_getElem hi3]
    rfl
  · unfold World.frozen?
    rw [hh]
    show (decide ((bytesRow S C).size ≤ i) && decide (i < (bytesRow S C).size + 1)) = false
    rw [hsz, decide_eq_false (by omega)]
    rfl
  · exact (Below.refl _ _).drew.alloc (Nat.le_refl _) _
  · show w.heap.size < (w.heap.push _).size
    simp
theorem set_bs {w W : World} {S : ByteArray} {C k : Nat} {t : Int} (hk : k < S.size) (ht : 0 ≤ t ∧ t ≤ 255) (hC : S.size ≤ C)
    (hc : ∀ i, i < S.size → W.cell? ⟨w.heap.size, i, none⟩ = some (.int .u8 ((ints S.data.toList).getD i 0))) (hs : w.heap.size < W.heap.size) :
    Bs (W.setCell ⟨w.heap.size, k, none⟩ (.int .u8 t)) (some ⟨w.heap.size, 0, none⟩) S.size C ((ints S.data.toList).set k t) := by
  have hl : S.data.toList.length = S.size := rfl
  refine .inr ⟨w.heap.size, 0, rfl, by omega, hC, by rw [List.length_set, ints_len]; rfl, fun z hz => ?_, fun i hi => ?_, by rw [World.size_setCell]; exact hs⟩
  · rcases List.mem_or_eq_of_mem_set hz with h | h
    · exact ints_byt _ z h
    · rw [h]; exact ht
  · rw [Nat.zero_add]
    have hil : i < (ints S.data.toList).length := by rw [ints_len]; omega
    by_cases hik : i = k
    · subst hik
      rw [World.cell?_setCell_same (h := hc i hk)]
      simp [List.getD, List.getElem?_set_self hil]
    · rw [World.cell?_setCell_other (h := fun e => hik (congrArg Addr.off e).symm), hc i hi]
      simp [List.getD, List.getElem?_set_ne (fun e : k = i => hik e.symm)]
theorem strOf_set (l : List UInt8) (k : Nat) (t : Int) : (strOf ((ints l).set k t)).data.toList = l.set k (UInt8.ofNat t.toNat) := by
  unfold strOf ints
  show (List.map _ _) = _
  rw [List.map_set, List.map_map]
  congr 1
  conv => rhs; rw [← List.map_id l]
  apply List.map_congr_left
  intro c _
  simp
/-- '[]byte{c}': one byte, in a new row. -/
theorem one_bs (w : World) (c : Int) (h0 : 0 ≤ c) (h1 : c ≤ 255) : Bs (w.alloc (.cells #[.int .u8 c] 5)) (some ⟨w.heap.size, 0, none⟩) 1 1 [c] := by
  refine .inr ⟨_, 0, rfl, by decide, by decide, rfl, (by intro z hz; simp at hz; omega), fun i hi => ?_, by simp⟩
  have : i = 0 := by omega
  subst this
  have hh : (w.alloc (Obj.cells #[Value.int .u8 c] 5)).heap[w.heap.size]? = some (Obj.cells #[Value.int .u8 c] 5) := by
    show (w.heap.push _)[w.heap.size]? = _
    simp
  unfold World.cell?
  rw [hh]
  rfl
end Go.Proofs.YtckjjfkfapfdaaaGreat

namespace Go.Proofs.YtckjjfkfapfdaaaGreat

/-- A chunk: its class, its number. -/
abbrev Ck := Int × Int
def bytesC (k : Int) : Int := if k = 0 then 64 else if k = 1 then 128 else if k = 2 then 256 else if k = 3 then 512 else if k = 4 then 1024 else if k = 5 then 2048 else 0
def clsOf (size : Int) : Nat := if size ≤ 64 then 0 else if size ≤ 128 then 1 else if size ≤ 256 then 2 else if size ≤ 512 then 3 else if size ≤ 1024 then 4 else if size ≤ 2048 then 5 else 0
def clsErr (size : Int) : Int := if size ≤ 2048 then 0 else 4
/-- A budget, the chunks in use, those that were let go, how many were made of each class. -/
structure Sb where
  bud : Int
  inn : List Ck
  gone : List Ck
  made : List Nat
def freshS (bud : Int) : Sb := ⟨bud, [], [], [0, 0, 0, 0, 0, 0]⟩
def sumB (l : List Ck) : Int := (l.map fun c => bytesC c.1).sum
def usedS (st : Sb) : Int := sumB st.inn
def nextS (st : Sb) (k : Nat) : Ck := ((st.gone.filter fun c => decide (c.1 = (k : Int))).getLast?).getD ((k : Int), ((st.made.getD k 0 : Nat) : Int))
def takeErr (st : Sb) (size : Int) : Int := if size ≤ 2048 then (if usedS st + bytesC (clsOf size) ≤ st.bud then 0 else 5) else 4
def takeCk (st : Sb) (size : Int) : Ck := if takeErr st size = 0 then nextS st (clsOf size) else (0, 0)
def addC (st : Sb) (k : Nat) (c : Ck) : Sb := if c ∈ st.gone then ⟨st.bud, st.inn ++ [c], st.gone.erase c, st.made⟩ else ⟨st.bud, st.inn ++ [c], st.gone, st.made.set k (st.made.getD k 0 + 1)⟩
def takeS (st : Sb) (size : Int) : Sb := if takeErr st size = 0 then addC st (clsOf size) (nextS st (clsOf size)) else st
def freeErr (st : Sb) (c : Ck) : Int := if c ∈ st.inn then 0 else 1
def freeS (st : Sb) (c : Ck) : Sb := if c ∈ st.inn then ⟨st.bud, st.inn.erase c, st.gone ++ [c], st.made⟩ else st
def fitsS (st : Sb) (size less : Int) : Bool := decide (size ≤ 2048 ∧ 0 ≤ less ∧ less ≤ usedS st ∧ usedS st - less + bytesC (clsOf size) ≤ st.bud)
structure GoodS (st : Sb) : Prop where
  nodup : (st.inn ++ st.gone).Nodup
  len : st.made.length = 6
  cls : ∀ c ∈ st.inn ++ st.gone, 0 ≤ c.1 ∧ c.1 < 6 ∧ 0 ≤ c.2 ∧ c.2 < ((st.made.getD c.1.toNat 0 : Nat) : Int)
  bud : st.inn = [] ∨ usedS st ≤ st.bud
/-- No list of it is longer. -/
structure Small (st : Sb) (n : Nat) : Prop where
  inn : st.inn.length ≤ n
  gone : st.gone.length ≤ n
  made : ∀ m ∈ st.made, m ≤ n

theorem bytes_nonneg (k : Int) : 0 ≤ bytesC k := by
  unfold bytesC
  repeat' split
  all_goals omega
theorem bytes_le (k : Int) : bytesC k ≤ 2048 := by
  unfold bytesC
  repeat' split
  all_goals omega
theorem cls_lt (size : Int) : clsOf size < 6 := by
  unfold clsOf
  repeat' split
  all_goals omega
theorem sumB_app (l m : List Ck) : sumB (l ++ m) = sumB l + sumB m := by simp [sumB]
theorem sumB_cons (c : Ck) (l : List Ck) : sumB (c :: l) = bytesC c.1 + sumB l := by simp [sumB]
theorem sumB_one (c : Ck) : sumB [c] = bytesC c.1 := by simp [sumB]
theorem sumB_nonneg : ∀ l : List Ck, 0 ≤ sumB l
  | [] => by simp [sumB]
  | c :: l => by
    have h1 := sumB_nonneg l
    have h2 := bytes_nonneg c.1
    rw [sumB_cons]
    omega
theorem sumB_le : ∀ l : List Ck, sumB l ≤ 2048 * l.length
  | [] => by simp [sumB]
  | c :: l => by
    have h1 := sumB_le l
    have h2 := bytes_le c.1
    rw [sumB_cons, List.length_cons]
    omega
theorem sumB_erase : ∀ (l : List Ck) (c : Ck), c ∈ l → sumB (l.erase c) = sumB l - bytesC c.1
  | [], c, h => by cases h
  | d :: l, c, h => by
    by_cases e : d = c
    · subst e
      rw [List.erase_cons_head, sumB_cons]
      omega
    · rw [List.erase_cons_tail (by simpa using e), sumB_cons, sumB_cons, sumB_erase l c ((List.mem_cons.1 h).resolve_left fun h => e h.symm)]
      omega
theorem next_cases (st : Sb) (k : Nat) : (nextS st k ∈ st.gone ∧ (nextS st k).1 = (k : Int)) ∨ ((∀ c ∈ st.gone, c.1 ≠ (k : Int)) ∧ nextS st k = ((k : Int), ((st.made.getD k 0 : Nat) : Int))) := by
  unfold nextS
  cases h : (st.gone.filter fun c => decide (c.1 = (k : Int))).getLast? with
  | some c =>
    have := List.mem_of_getLast? h
    rw [List.mem_filter] at this
    exact .inl ⟨this.1, of_decide_eq_true this.2⟩
  | none =>
    rw [List.getLast?_eq_none_iff, List.filter_eq_nil_iff] at h
    exact .inr ⟨fun c hc e => h c hc (decide_eq_true e), rfl⟩
theorem next_cls (st : Sb) (k : Nat) : (nextS st k).1 = (k : Int) := by
  rcases next_cases st k with h | h
  · exact h.2
  · rw [h.2]
/-- A chunk that is taken was not in use. -/
theorem next_new {st : Sb} (h : GoodS st) (k : Nat) : ¬ nextS st k ∈ st.inn := by
  intro hm
  rcases next_cases st k with ⟨hg, _⟩ | ⟨_, e⟩
  · exact (List.nodup_append.1 h.nodup).2.2 _ hm _ hg rfl
  · have := (h.cls _ (List.mem_append_left _ hm)).2.2.2
    rw [e] at this
    simp at this
theorem getD_set_nat (l : List Nat) (i j x : Nat) (h : i < l.length) : (l.set i x).getD j 0 = if i = j then x else l.getD j 0 := by
  simp only [List.getD, List.getElem?_set]
  by_cases e : i = j
  · subst e
    simp [h]
  · simp [e]
theorem good_freshS (bud : Int) : GoodS (freshS bud) := ⟨List.nodup_nil, rfl, fun _ hc => (List.not_mem_nil hc).elim, .inl rfl⟩
theorem erase_perm {l : List Ck} {c : Ck} (h : c ∈ l) : ([c] ++ l.erase c).Perm l := (List.perm_cons_erase h).symm
theorem good_take {st : Sb} (h : GoodS st) (size : Int) : GoodS (takeS st size) := by
  unfold takeS
  by_cases he : takeErr st size = 0
  · rw [if_pos he]
    have hb : usedS st + bytesC (clsOf size) ≤ st.bud := by
      unfold takeErr at he
      split at he
      · split at he
        · assumption
        · omega
      · omega
    have hk := cls_lt size
    have hc1 := next_cls st (clsOf size)
    have hnew := next_new h (clsOf size)
    have hnc := next_cases st (clsOf size)
    generalize nextS st (clsOf size) = c at *
    generalize clsOf size = k at *
    have hused : sumB (st.inn ++ [c]) ≤ st.bud := by
      rw [sumB_app, sumB_one, hc1]
      exact hb
    unfold addC
    by_cases hg : c ∈ st.gone
    · rw [if_pos hg]
      have hp : (st.inn ++ [c] ++ st.gone.erase c).Perm (st.inn ++ st.gone) := by
        rw [List.append_assoc]
        exact List.Perm.append_left _ (erase_perm hg)
      exact ⟨hp.nodup_iff.2 h.nodup, h.len, fun d hd => h.cls d (hp.mem_iff.1 hd), .inr hused⟩
    · rw [if_neg hg]
      obtain ⟨hno, ec⟩ := hnc.resolve_left fun x => hg x.1
      have hfree : ¬ c ∈ st.inn ++ st.gone := fun hm => (List.mem_append.1 hm).elim hnew hg
      refine ⟨?_, by rw [List.length_set]; exact h.len, fun d hd => ?_, .inr hused⟩
      · have hp : (st.inn ++ [c] ++ st.gone).Perm (c :: (st.inn ++ st.gone)) := by
          rw [List.append_assoc]
          exact List.perm_middle
        rw [hp.nodup_iff]
        exact List.nodup_cons.2 ⟨hfree, h.nodup⟩
      · rw [getD_set_nat _ _ _ _ (by rw [h.len]; exact hk)]
        have hd2 : d = c ∨ d ∈ st.inn ++ st.gone := by
          simp only [List.mem_append, List.mem_singleton] at hd ⊢
          rcases hd with (hd | hd) | hd
          · exact .inr (.inl hd)
          · exact .inl hd
          · exact .inr (.inr hd)
        rcases hd2 with rfl | hd2
        · rw [hc1, ec]
          simp
          omega
        · obtain ⟨a1, a2, a3, a4⟩ := h.cls d hd2
          refine ⟨a1, a2, a3, ?_⟩
          by_cases e : k = d.1.toNat
          · rw [if_pos e, e]
            omega
          · rw [if_neg e]
            exact a4
  · rw [if_neg he]
    exact h
theorem good_free {st : Sb} (h : GoodS st) (c : Ck) : GoodS (freeS st c) := by
  unfold freeS
  by_cases hm : c ∈ st.inn
  · rw [if_pos hm]
    have hp : (st.inn.erase c ++ (st.gone ++ [c])).Perm (st.inn ++ st.gone) := by
      refine List.Perm.trans ?_ (List.Perm.append_right st.gone (erase_perm hm))
      rw [← List.append_assoc]
      exact (List.perm_append_comm).trans (by simp)
    refine ⟨hp.nodup_iff.2 h.nodup, h.len, fun d hd => h.cls d (hp.mem_iff.1 hd), ?_⟩
    rcases h.bud with e | e
    · rw [e] at hm
      cases hm
    · refine .inr ?_
      show sumB (st.inn.erase c) ≤ st.bud
      rw [sumB_erase _ _ hm]
      have := bytes_nonneg c.1
      have e2 : usedS st = sumB st.inn := rfl
      omega
  · rw [if_neg hm]
    exact h
theorem used_bound {st : Sb} {n : Nat} (h : Small st n) : 0 ≤ usedS st ∧ usedS st ≤ 2048 * n := by
  have h1 := sumB_nonneg st.inn
  have h2 := sumB_le st.inn
  have h3 := h.inn
  have e : usedS st = sumB st.inn := rfl
  omega
theorem small_fresh (bud : Int) : Small (freshS bud) 0 := ⟨Nat.le_refl _, Nat.le_refl _, fun m hm => by simp [freshS] at hm; omega⟩
theorem small_mono {st : Sb} {n m : Nat} (h : Small st n) (hm : n ≤ m) : Small st m := ⟨Nat.le_trans h.inn hm, Nat.le_trans h.gone hm, fun x hx => Nat.le_trans (h.made x hx) hm⟩
theorem small_take {st : Sb} {n : Nat} (h : Small st n) (size : Int) : Small (takeS st size) (n + 1) := by
  unfold takeS
  split
  · unfold addC
    split
    · refine ⟨by rw [List.length_append]; exact Nat.succ_le_succ h.inn, ?_, fun m hm => Nat.le_succ_of_le (h.made m hm)⟩
      exact Nat.le_succ_of_le (Nat.le_trans (List.length_erase_le) h.gone)
    · refine ⟨by rw [List.length_append]; exact Nat.succ_le_succ h.inn, Nat.le_succ_of_le h.gone, fun m hm => ?_⟩
      rcases List.mem_or_eq_of_mem_set hm with h1 | h1
      · exact Nat.le_succ_of_le (h.made m h1)
      · rw [h1]
        refine Nat.succ_le_succ ?_
        by_cases hk : clsOf size < st.made.length
        · simp only [List.getD, List.getElem?_eq_getElem hk, Option.getD_some]
          exact h.made _ (List.getElem_mem hk)
        · simp [List.getD, List.getElem?_eq_none (Nat.le_of_not_lt hk)]
  · exact small_mono h (Nat.le_succ n)
theorem small_free {st : Sb} {n : Nat} (h : Small st n) (c : Ck) : Small (freeS st c) (n + 1) := by
  unfold freeS
  split
  · exact ⟨Nat.le_succ_of_le (Nat.le_trans (List.length_erase_le) h.inn), by rw [List.length_append]; exact Nat.succ_le_succ h.gone, fun m hm => Nat.le_succ_of_le (h.made m hm)⟩
  · exact small_mono h (Nat.le_succ n)
end Go.Proofs.YtckjjfkfapfdaaaGreat

namespace Go.Proofs.YtckjjfkfapfdaaaGreat

/-- How many may be protected; the keys on trial, the keys protected. -/
structure Sr where
  most : Int
  trial : List ByteArray
  safe : List ByteArray
def freshR (most : Int) : Sr := ⟨most, [], []⟩
def allR (st : Sr) : List ByteArray := st.trial ++ st.safe
def hasK (l : List ByteArray) (k : ByteArray) : Bool := l.any fun x => decide (x = k)
def without (l : List ByteArray) (k : ByteArray) : List ByteArray := l.filter fun x => decide (x ≠ k)
def addErr (st : Sr) (k : ByteArray) : Int := if hasK (allR st) k then 7 else 0
def addR (st : Sr) (k : ByteArray) : Sr := if hasK (allR st) k then st else ⟨st.most, st.trial ++ [k], st.safe⟩
def remErr (st : Sr) (k : ByteArray) : Int := if hasK (allR st) k then 0 else 6
def remR (st : Sr) (k : ByteArray) : Sr := ⟨st.most, without st.trial k, without st.safe k⟩
/-- If those protected are too many, the first of them goes back on trial. -/
def spill (st : Sr) : Sr := if st.most < st.safe.length then (match st.safe with | [] => st | x :: l => ⟨st.most, st.trial ++ [x], l⟩) else st
def hitR (st : Sr) (k : ByteArray) : Sr := if hasK (allR st) k then spill ⟨st.most, without st.trial k, without st.safe k ++ [k]⟩ else st
/-- The first one that is not this one. -/
def vicR (st : Sr) (k : ByteArray) : Option ByteArray := (allR st).find? fun x => decide (x ≠ k)
structure GoodR (st : Sr) : Prop where
  nodup : (allR st).Nodup
  most : (st.safe.length : Int) ≤ max st.most 0

theorem hasK_iff {l : List ByteArray} {k : ByteArray} : hasK l k = true ↔ k ∈ l := by simp [hasK]
theorem hasK_not {l : List ByteArray} {k : ByteArray} : hasK l k = false ↔ ¬ k ∈ l := by rw [← hasK_iff]; simp
theorem mem_without {l : List ByteArray} {k x : ByteArray} : x ∈ without l k ↔ x ∈ l ∧ x ≠ k := by simp [without]
theorem without_app (l m : List ByteArray) (k : ByteArray) : without (l ++ m) k = without l k ++ without m k := by simp [without]
theorem without_not {l : List ByteArray} {k : ByteArray} (h : ¬ k ∈ l) : without l k = l := by
  unfold without
  rw [List.filter_eq_self]
  intro x hx
  exact decide_eq_true fun e => h (e ▸ hx)
theorem without_sub (l : List ByteArray) (k : ByteArray) : (without l k).Sublist l := List.filter_sublist
theorem without_le (l : List ByteArray) (k : ByteArray) : (without l k).length ≤ l.length := (without_sub l k).length_le
theorem without_lt {l : List ByteArray} {k : ByteArray} (h : k ∈ l) : (without l k).length < l.length := by
  unfold without
  exact List.length_filter_lt_length_iff_exists.2 ⟨k, h, by simp⟩
theorem without_len {l : List ByteArray} {k : ByteArray} (hn : l.Nodup) (h : k ∈ l) : (without l k).length + 1 = l.length := by
  induction l with
  | nil => cases h
  | cons x l ih =>
    rw [List.nodup_cons] at hn
    by_cases e : x = k
    · subst e
      have : without (x :: l) x = without l x := by simp [without]
      rw [this, without_not hn.1, List.length_cons]
    · have : without (x :: l) k = x :: without l k := by simp [without, e]
      have hk : k ∈ l := (List.mem_cons.1 h).resolve_left fun h => e h.symm
      have := ih hn.2 hk
      simp_all
theorem all_rem (st : Sr) (k : ByteArray) : allR (remR st k) = without (allR st) k := (without_app _ _ _).symm
theorem rem_not {st : Sr} {k : ByteArray} (h : ¬ k ∈ allR st) : remR st k = st := by
  unfold remR
  rw [without_not fun h' => h (List.mem_append_left _ h'), without_not fun h' => h (List.mem_append_right _ h')]
theorem goodR_fresh (most : Int) : GoodR (freshR most) := ⟨List.nodup_nil, by simp [freshR]; omega⟩
theorem goodR_add {st : Sr} (h : GoodR st) (k : ByteArray) : GoodR (addR st k) := by
  unfold addR
  split
  · exact h
  · rename_i hk
    rw [hasK_iff] at hk
    refine ⟨?_, h.most⟩
    show (st.trial ++ [k] ++ st.safe).Nodup
    have hp : (st.trial ++ [k] ++ st.safe).Perm (k :: allR st) := by
      rw [List.append_assoc]
      exact List.perm_middle
    exact hp.nodup_iff.2 (List.nodup_cons.2 ⟨hk, h.nodup⟩)
theorem good_rem {st : Sr} (h : GoodR st) (k : ByteArray) : GoodR (remR st k) := by
  refine ⟨?_, ?_⟩
  · rw [all_rem]
    exact (without_sub _ k).nodup h.nodup
  · have := without_le st.safe k
    have h2 := h.most
    show ((without st.safe k).length : Int) ≤ _
    show _ ≤ max st.most 0
    omega
theorem all_spill (st : Sr) : allR (spill st) = allR st := by
  unfold spill
  split
  · split
    · rfl
    · rename_i x l e
      unfold allR
      rw [e]
      simp
  · rfl
theorem all_hit {st : Sr} {k : ByteArray} (h : k ∈ allR st) : allR (hitR st k) = without (allR st) k ++ [k] := by
  unfold hitR
  rw [if_pos (hasK_iff.2 h), all_spill]
  show without st.trial k ++ (without st.safe k ++ [k]) = _
  rw [← List.append_assoc, ← without_app]
  rfl
theorem good_hit {st : Sr} (h : GoodR st) (k : ByteArray) : GoodR (hitR st k) := by
  by_cases hk : k ∈ allR st
  · refine ⟨?_, ?_⟩
    · rw [all_hit hk, List.nodup_append]
      refine ⟨(without_sub _ k).nodup h.nodup, by simp, ?_⟩
      intro a ha b hb e
      rw [List.mem_singleton] at hb
      exact (mem_without.1 ha).2 (e.trans hb)
    · have := without_le st.safe k
      have h2 := h.most
      unfold hitR
      rw [if_pos (hasK_iff.2 hk)]
      unfold spill
      split
      · rename_i hlt
        split
        · rename_i e
          simp at e
        · rename_i x l e
          have hl := congrArg List.length e
          simp at hl hlt ⊢
          omega
      · rename_i hlt
        simp at hlt ⊢
        omega
  · unfold hitR
    rw [if_neg (fun h => hk (hasK_iff.1 h))]
    exact h
theorem lenR_add (st : Sr) (k : ByteArray) : (allR (addR st k)).length ≤ (allR st).length + 1 := by
  unfold addR
  split
  · omega
  · simp [allR]
    omega
theorem len_rem (st : Sr) (k : ByteArray) : (allR (remR st k)).length ≤ (allR st).length := by
  rw [all_rem]
  exact without_le _ _
theorem len_hit {st : Sr} (h : GoodR st) (k : ByteArray) : (allR (hitR st k)).length = (allR st).length := by
  by_cases hk : k ∈ allR st
  · rw [all_hit hk, List.length_append]
    exact without_len h.nodup hk
  · unfold hitR
    rw [if_neg (fun h => hk (hasK_iff.1 h))]
theorem most_add (st : Sr) (k : ByteArray) : (addR st k).most = st.most := by unfold addR; split <;> rfl
theorem most_rem (st : Sr) (k : ByteArray) : (remR st k).most = st.most := rfl
theorem most_spill (st : Sr) : (spill st).most = st.most := by
  unfold spill
  split
  · split <;> rfl
  · rfl
theorem most_hit (st : Sr) (k : ByteArray) : (hitR st k).most = st.most := by
  unfold hitR
  split
  · rw [most_spill]
  · rfl
theorem add_in {st : Sr} {k : ByteArray} (h : k ∈ allR st) : addErr st k = 7 ∧ addR st k = st := by
  unfold addErr addR
  rw [if_pos (hasK_iff.2 h), if_pos (hasK_iff.2 h)]
  exact ⟨rfl, rfl⟩
theorem add_out {st : Sr} {k : ByteArray} (h : ¬ k ∈ allR st) : addErr st k = 0 ∧ addR st k = ⟨st.most, st.trial ++ [k], st.safe⟩ := by
  unfold addErr addR
  rw [if_neg (fun h' => h (hasK_iff.1 h')), if_neg (fun h' => h (hasK_iff.1 h'))]
  exact ⟨rfl, rfl⟩
theorem rem_in {st : Sr} {k : ByteArray} (h : k ∈ allR st) : remErr st k = 0 := by
  unfold remErr
  rw [if_pos (hasK_iff.2 h)]
theorem rem_out {st : Sr} {k : ByteArray} (h : ¬ k ∈ allR st) : remErr st k = 6 ∧ remR st k = st := by
  unfold remErr
  rw [if_neg (fun h' => h (hasK_iff.1 h'))]
  exact ⟨rfl, rem_not h⟩
theorem hit_out {st : Sr} {k : ByteArray} (h : ¬ k ∈ allR st) : hitR st k = st := by
  unfold hitR
  rw [if_neg (fun h' => h (hasK_iff.1 h'))]
end Go.Proofs.YtckjjfkfapfdaaaGreat
