/- What Signed of package num answers: the number of a Decimal of at most 2^40, with or without a minus ahead, else none. Conditions: the listed variables hold what the program's text lays. The words of a line, as a plain function: the longest pieces without a blank, from the left. Conditions: none. -/
import Derived.Test.YthofdmepofepgaaDoorG01Joined
namespace Go.Proofs.YthofdmepofepgaaDoor
open Go.RowKit

/-- A Decimal of at most 2^40, or none. -/
def small40 (l : List UInt8) : Option Int := match dec l with | some u => if u ≤ 1099511627776 then some (u : Int) else none | none => none
/-- The number that Signed answers, or none. -/
def sgn (l : List UInt8) : Option Int := if l.head? = some 45 then (small40 (l.drop 1)).map (fun z => -z) else small40 l
def sgnV (l : List UInt8) : Int := (sgn l).getD 0
def sgnB (l : List UInt8) : Bool := (sgn l).isSome

theorem dec_cases (l : List UInt8) :
    (decV l = 0 ∧ decB l = false ∧ (small40 l).getD 0 = 0 ∧ (small40 l).isSome = false) ∨
    (∃ u : Nat, (1099511627776 : Int) < (u : Int) ∧ decV l = (u : Int) ∧ decB l = true ∧ (small40 l).getD 0 = 0 ∧ (small40 l).isSome = false) ∨
    (∃ u : Nat, (u : Int) ≤ 1099511627776 ∧ decV l = (u : Int) ∧ decB l = true ∧ (small40 l).getD 0 = (u : Int) ∧ (small40 l).isSome = true) := by
  cases h : dec l with
  | none => exact .inl ⟨by simp [decV, h], by simp [decB, h], by simp [small40, h], by simp [small40, h]⟩
  | some u =>
    by_cases hu : u ≤ 1099511627776
    · exact .inr (.inr ⟨u, by omega, by simp [decV, h], by simp [decB, h], by simp [small40, h, hu], by simp [small40, h, hu]⟩)
    · exact .inr (.inl ⟨u, by omega, by simp [decV, h], by simp [decB, h], by simp [small40, h, hu], by simp [small40, h, hu]⟩)
theorem neg_get {o : Option Int} {x : Int} (h : o.getD 0 = x) : (o.map (fun z => -z)).getD 0 = -x := by subst h; cases o <;> simp
theorem neg_some {o : Option Int} {b : Bool} (h : o.isSome = b) : (o.map (fun z => -z)).isSome = b := by cases o <;> simp_all
theorem extract_one (s : ByteArray) : (s.extract 1 s.size).data.toList = s.data.toList.drop 1 := by
  rw [ByteArray.data_extract, Array.toList_extract]
  simp only [List.extract]
  rw [List.take_of_length_le]
  have hl := size_list s
  rw [List.length_drop]
  omega
theorem head_at (s : ByteArray) (hp : 0 < s.size) : s.data.toList.head? = some (s[0]'hp) := by
  have hl := size_list s
  rw [List.head?_eq_getElem?, List.getElem?_eq_getElem (by omega)]
  rfl
theorem sgn_cases (s : ByteArray) :
    (s.toList = [] ∧ s.size = 0 ∧ sgn s.data.toList = small40 s.data.toList) ∨
    (¬ s.toList = [] ∧ ∃ hp : 0 < s.size, ((s[0]'hp).toNat : Int) = 45 ∧ sgn s.data.toList = (small40 (s.data.toList.drop 1)).map (fun z => -z)) ∨
    (¬ s.toList = [] ∧ ∃ hp : 0 < s.size, ¬ ((s[0]'hp).toNat : Int) = 45 ∧ sgn s.data.toList = small40 s.data.toList) := by
  have hl := size_list s
  by_cases h0 : s.size = 0
  · have he : s.data.toList = [] := List.eq_nil_of_length_eq_zero (by omega)
    exact .inl ⟨by rw [ByteArray.toList_eq, he], h0, by simp [sgn, he]⟩
  · have hp : 0 < s.size := by omega
    have hne : ¬ s.toList = [] := by rw [ByteArray.toList_eq]; intro he; rw [he] at hl; simp at hl; omega
    by_cases h45 : ((s[0]'hp).toNat : Int) = 45
    · have e : (s[0]'hp) = 45 := by apply UInt8.toNat_inj.1; have : ((45 : UInt8).toNat : Int) = 45 := by decide
                                    omega
      exact .inr (.inl ⟨hne, hp, h45, by unfold sgn; rw [head_at s hp, e, if_pos rfl]⟩)
    · have e : ¬ (s[0]'hp) = 45 := by intro e; rw [e] at h45; exact h45 (by decide)
      exact .inr (.inr ⟨hne, hp, h45, by unfold sgn; rw [head_at s hp, if_neg (by simpa using e)]⟩)

set_option maxHeartbeats 2000000 in
theorem signed_any (s : ByteArray) (hs : s.size ≤ 140737488351232) (w : World) (hL : Laid w) :
    Calls Tryd.prog 48 #[.string s] w fun e w' => e = .returned (.tuple #[.int .i64 (sgnV s.data.toList), .bool (sgnB s.data.toList)]) ∧ Below w.heap.size w w' := by
  rcases sgn_cases s with ⟨h1, h0, he⟩ | ⟨h1, hp, h45, he⟩ | ⟨h1, hp, h45, he⟩
  · rcases dec_cases s.data.toList with ⟨d1, d2, e1, e2⟩ | ⟨u, hu, d1, d2, e1, e2⟩ | ⟨u, hu, d1, d2, e1, e2⟩
    all_goals
      rw [show sgnV s.data.toList = _ from (congrArg (·.getD 0) he).trans e1, show sgnB s.data.toList = _ from (congrArg (·.isSome) he).trans e2]
      clear he e1 e2
      go_enter Tryd.func48, Tryd.ntmps48
      go_wp2_with (go_at_call 54; refine (decimal_any s hs _ hL).mono ?_; rintro e w' ⟨rfl, hb⟩)
      go_ret2
      exact ⟨rfl, hb⟩
  · have hE : s.toList.isEmpty = false := by simpa using h1
    have hx : (s.extract 1 s.size).size ≤ 140737488351232 := by rw [ByteArray.size_extract]; omega
    have hxl : (s.extract 1 s.size).data.toList = s.data.toList.drop 1 := extract_one s
    obtain ⟨t, ht⟩ : ∃ t, t = s.extract 1 s.size := ⟨_, rfl⟩
    rw [← ht] at hx hxl
    rcases dec_cases (s.data.toList.drop 1) with ⟨d1, d2, e1, e2⟩ | ⟨u, hu, d1, d2, e1, e2⟩ | ⟨u, hu, d1, d2, e1, e2⟩
    all_goals
      have e3 : sgnV s.data.toList = _ := (congrArg (·.getD 0) he).trans (neg_get e1)
      have e4 : sgnB s.data.toList = _ := (congrArg (·.isSome) he).trans (neg_some e2)
      rw [e3, e4]
      rw [← hxl] at d1 d2
      clear he e1 e2 e3 e4 hxl
      have ht' : s.extract 1 s.size = t := ht.symm
      clear ht
      go_enter Tryd.func48, Tryd.ntmps48
      go_wp2_with (go_at_call 54; refine (decimal_any t hx _ hL).mono ?_; rintro e w' ⟨rfl, hb⟩)
      go_ret2
      exact ⟨rfl, hb⟩
  · have hE : s.toList.isEmpty = false := by simpa using h1
    rcases dec_cases s.data.toList with ⟨d1, d2, e1, e2⟩ | ⟨u, hu, d1, d2, e1, e2⟩ | ⟨u, hu, d1, d2, e1, e2⟩
    all_goals
      rw [show sgnV s.data.toList = _ from (congrArg (·.getD 0) he).trans e1, show sgnB s.data.toList = _ from (congrArg (·.isSome) he).trans e2]
      clear he e1 e2
      go_enter Tryd.func48, Tryd.ntmps48
      go_wp2_with (go_at_call 54; refine (decimal_any s hs _ hL).mono ?_; rintro e w' ⟨rfl, hb⟩)
      go_ret2
      exact ⟨rfl, hb⟩
end Go.Proofs.YthofdmepofepgaaDoor

namespace Go.Proofs.YthofdmepofepgaaDoor

/-- The words of what is left, a word being under way. -/
def wd : List UInt8 → List UInt8 → List (List UInt8)
  | cur, [] => if cur = [] then [] else [cur]
  | cur, c :: r => if c = 32 then (if cur = [] then wd [] r else cur :: wd [] r) else wd (cur ++ [c]) r
/-- What is still to come at place k, the word under way having begun at place a. -/
def restL (l : List UInt8) (a k : Nat) : List (List UInt8) := if k ≤ l.length then wd ((l.take k).drop a) (l.drop k) else []
def mkB (l : List UInt8) : ByteArray := ⟨l.toArray⟩
def restW (s : ByteArray) (a k : Nat) : List ByteArray := (restL s.data.toList a k).map mkB
def wordsB (s : ByteArray) : List ByteArray := restW s 0 0

theorem restL_go (l : List UInt8) (a k : Nat) (h : k < l.length) (ha : a ≤ k) (hc : l[k] ≠ 32) : restL l a k = restL l a (k + 1) := by
  unfold restL
  rw [if_pos (by omega), if_pos (by omega), List.drop_eq_getElem_cons h]
  simp only [wd]
  rw [if_neg hc, List.take_succ_eq_append_getElem h, List.drop_append_of_le_length (by rw [List.length_take]; omega)]
theorem cur_nil (l : List UInt8) (a k : Nat) (hk : k ≤ l.length) : (l.take k).drop a = [] ↔ k ≤ a := by
  rw [List.drop_eq_nil_iff, List.length_take]
  omega
theorem restL_new (l : List UInt8) (k : Nat) (h : k < l.length) : restL l (k + 1) (k + 1) = wd [] (l.drop (k + 1)) := by
  unfold restL
  rw [if_pos (by omega), (cur_nil l (k + 1) (k + 1) (by omega)).2 (Nat.le_refl _)]
theorem restL_word (l : List UInt8) (a k : Nat) (hk : k ≤ l.length) (ha : a < k) (hc : ∀ h : k < l.length, l[k] = 32) : restL l a k = ((l.take k).drop a) :: restL l (k + 1) (k + 1) := by
  have hne : ¬ (l.take k).drop a = [] := by rw [cur_nil l a k hk]; omega
  rcases Nat.lt_or_ge k l.length with h | h
  · rw [restL_new l k h]
    unfold restL
    rw [if_pos hk, List.drop_eq_getElem_cons h]
    simp only [wd]
    rw [if_pos (hc h), if_neg hne]
  · unfold restL
    rw [if_pos hk, if_neg (by omega), List.drop_of_length_le (i := k) (l := l) h]
    simp only [wd]
    rw [if_neg hne]
theorem restL_skip (l : List UInt8) (a k : Nat) (hk : k ≤ l.length) (ha : k ≤ a) (hc : ∀ h : k < l.length, l[k] = 32) : restL l a k = restL l (k + 1) (k + 1) := by
  have hne : (l.take k).drop a = [] := (cur_nil l a k hk).2 ha
  rcases Nat.lt_or_ge k l.length with h | h
  · rw [restL_new l k h]
    unfold restL
    rw [if_pos hk, List.drop_eq_getElem_cons h]
    simp only [wd]
    rw [if_pos (hc h), if_pos hne]
  · unfold restL
    rw [if_pos hk, if_neg (by omega), List.drop_of_length_le (i := k) (l := l) h]
    simp only [wd]
    rw [if_pos hne]
theorem restL_end (l : List UInt8) (a k : Nat) (h : l.length < k) : restL l a k = [] := by unfold restL; rw [if_neg (by omega)]

theorem extract_mk (s : ByteArray) (a k : Nat) : s.extract a k = mkB ((s.data.toList.take k).drop a) := by
  apply ByteArray.ext
  rw [ByteArray.data_extract]
  apply Array.ext'
  rw [Array.toList_extract]
  simp only [List.extract, mkB]
  rw [List.drop_take]

theorem wd_len : ∀ (r cur : List UInt8), (wd cur r).length ≤ r.length + 1
  | [], cur => by simp only [wd]; split <;> simp
  | c :: r, cur => by
    simp only [wd]
    split
    · split
      · have := wd_len r []; simp only [List.length_cons]; omega
      · have := wd_len r []; simp only [List.length_cons]; omega
    · have := wd_len r (cur ++ [c]); simp only [List.length_cons]; omega
theorem wordsB_len (s : ByteArray) : (wordsB s).length ≤ s.size + 1 := by
  have h := wd_len s.data.toList []
  rw [size_list] at h
  simp only [wordsB, restW, List.length_map, restL, Nat.zero_le, if_true, List.take_zero, List.drop_zero, List.drop_nil]
  exact h
end Go.Proofs.YthofdmepofepgaaDoor
