/- A line with noreply behind it: the same request, but that it is quiet. Conditions: none. -/
import Derived.Test.YtfcmnkhfmofioaaDoorG12Joined
import Derived.Test.YtfcmnkhfmofioaaDoorG03Joined
namespace Go.Proofs.YtfcmnkhfmofioaaDoor
set_option linter.unusedVariables false

theorem wd_join (r : List UInt8) : ∀ (l cur : List UInt8), wd cur (l ++ 32 :: r) = wd cur l ++ wd [] r
  | [], cur => by
    simp only [List.nil_append, wd, if_true]
    by_cases h : cur = []
    · rw [if_pos h, if_pos h]; rfl
    · rw [if_neg h, if_neg h]; rfl
  | c :: l, cur => by
    rw [List.cons_append]
    by_cases hc : c = 32
    · subst hc
      simp only [wd, if_true]
      rw [wd_join r l []]
      split <;> rfl
    · simp only [wd, if_neg hc]
      exact wd_join r l (cur ++ [c])
theorem words_noreply (l : List UInt8) : wordsL (l ++ 32 :: t_noreply) = wordsL l ++ [t_noreply] := by
  have h : ∀ x, wordsL x = wd [] x := fun x => by unfold wordsL restL; simp
  rw [h, h, wd_join]
  rfl
theorem readW_quiet (k : Nat) (d : Dv) (x : List UInt8) (b : Bool) : readW k { d with quiet := b } x = ({ (readW k d x).1 with quiet := b }, (readW k d x).2) := by
  unfold readW keepK
  repeat' split
  all_goals rfl
theorem runR_quiet (b : Bool) : ∀ (ks : List Nat) (ws : List (List UInt8)) (d : Dv) (f : List UInt8), runR ks ws { d with quiet := b } f = ({ (runR ks ws d f).1 with quiet := b }, (runR ks ws d f).2)
  | [], ws, d, f => rfl
  | k :: ks, [], d, f => rfl
  | k :: ks, x :: ws, d, f => by
    show runR ks ws (readW k { d with quiet := b } x).1 (if f = [] then (readW k { d with quiet := b } x).2 else f) = _
    rw [readW_quiet]
    exact runR_quiet b ks ws (readW k d x).1 (if f = [] then (readW k d x).2 else f)
theorem large_quiet (b : Bool) (r : Dv × List UInt8) : largeN ({ r.1 with quiet := b }, r.2) = ({ (largeN r).1 with quiet := b }, (largeN r).2) := rfl
theorem readW_op (k : Nat) (d : Dv) (x : List UInt8) : (readW k d x).1.op = d.op ∧ (readW k d x).1.quiet = d.quiet := by
  unfold readW keepK
  repeat' split
  all_goals exact ⟨rfl, rfl⟩
theorem runR_op : ∀ (ks : List Nat) (ws : List (List UInt8)) (d : Dv) (f : List UInt8), (runR ks ws d f).1.op = d.op ∧ (runR ks ws d f).1.quiet = d.quiet
  | [], ws, d, f => ⟨rfl, rfl⟩
  | k :: ks, [], d, f => ⟨rfl, rfl⟩
  | k :: ks, x :: ws, d, f => by
    have h := runR_op ks ws (readW k d x).1 (if f = [] then (readW k d x).2 else f)
    have h2 := readW_op k d x
    exact ⟨h.1.trans h2.1, h.2.trans h2.2⟩
theorem parts_more {v : List UInt8} {op : Int} {ws : List (List UInt8)} (hop : op = 8 ∨ op = 2 ∨ op = 10 ∨ op = 11 ∨ op = 13) (hl : ws.length = (partsN op v ws).length) : partsN op v (ws ++ [t_noreply]) = partsN op v ws := by
  rcases hop with h | h | h | h | h
  · subst h; rfl
  · subst h; rfl
  · subst h; rfl
  · subst h; rfl
  · subst h
    have e : ∀ x, partsN 13 v x = if x ≠ [] ∧ quietN 13 x 0 = false then [1] else [] := fun x => rfl
    rw [e] at hl
    rw [e, e]
    cases ws with
    | nil => rfl
    | cons x ws =>
      cases ws with
      | nil =>
        by_cases hq : quietN 13 [x] 0 = false
        · have h2 : quietN 13 ([x] ++ [t_noreply]) 0 = false := by unfold quietN; simp
          rw [if_pos ⟨by simp, h2⟩, if_pos ⟨by simp, hq⟩]
        · rw [if_neg (fun h => hq h.2)] at hl
          simp at hl
      | cons y ws =>
        exfalso
        split at hl
        · simp at hl
        · simp at hl
theorem quiet_more {op : Int} {ws : List (List UInt8)} (hop : op = 8 ∨ op = 2 ∨ op = 10 ∨ op = 11 ∨ op = 13) : quietN op (ws ++ [t_noreply]) ws.length = true := by
  have hm : mayQ op = true := by rcases hop with h | h | h | h | h <;> (subst h; decide)
  unfold quietN
  rw [hm]
  simp
/-- The words behind a first one whose request is loud: they may be followed by noreply. -/
theorem behind_quiet {v : List UInt8} {ws : List (List UInt8)} (hf : (behindN v ws).2 = []) (hq : (behindN v ws).1.quiet = false) (hop : (begun v).op = 8 ∨ (begun v).op = 2 ∨ (begun v).op = 10 ∨ (begun v).op = 11 ∨ (begun v).op = 13) :
    behindN v (ws ++ [t_noreply]) = ({ (behindN v ws).1 with quiet := true }, []) := by
  obtain ⟨ks, hks⟩ : ∃ ks, ks = partsN (begun v).op v ws := ⟨_, rfl⟩
  have eb : ∀ x, behindN v x = (let ks := partsN (begun v).op v x; let q := quietN (begun v).op x ks.length; let d1 := if q then { begun v with quiet := true } else begun v; let ws1 := if q then x.take ks.length else x; if ws1.length = ks.length then largeN (runR ks ws1 d1 []) else (d1, t_ERROR)) := fun x => rfl
  rw [eb] at hf hq
  simp only [] at hf hq
  rw [← hks] at hf hq
  cases hqq : quietN (begun v).op ws ks.length
  · rw [hqq] at hf hq
    simp only [Bool.false_eq_true, if_false] at hf hq
    by_cases hl : ws.length = ks.length
    · rw [if_pos hl] at hf hq
      have hp : partsN (begun v).op v (ws ++ [t_noreply]) = ks := by
        rw [hks]
        exact parts_more hop (by rw [← hks]; exact hl)
      have hq2 : quietN (begun v).op (ws ++ [t_noreply]) ks.length = true := by rw [← hl]; exact quiet_more hop
      have ht : (ws ++ [t_noreply]).take ks.length = ws := by rw [← hl, List.take_left]
      have hb : behindN v ws = largeN (runR ks ws (begun v) []) := by
        rw [eb]
        simp only []
        rw [← hks, hqq]
        simp only [Bool.false_eq_true, if_false]
        rw [if_pos hl]
      rw [hb, eb]
      simp only []
      rw [hp, hq2, ht]
      simp only [if_true]
      rw [if_pos hl, runR_quiet, large_quiet, hf]
    · rw [if_neg hl] at hf
      cases hf
  · exfalso
    rw [hqq] at hf hq
    simp only [if_true] at hf hq
    split at hq
    · have := (runR_op ks (ws.take ks.length) { begun v with quiet := true } []).2
      have h2 : (largeN (runR ks (ws.take ks.length) { begun v with quiet := true } [])).1.quiet = true := this
      rw [h2] at hq
      cases hq
    · cases hq
theorem behind_op (v : List UInt8) (ws : List (List UInt8)) : (behindN v ws).1.op = (begun v).op := by
  unfold behindN
  simp only []
  generalize partsN (begun v).op v ws = ks
  cases quietN (begun v).op ws ks.length
  · simp only [Bool.false_eq_true, if_false]
    split
    · exact (runR_op ks ws (begun v) []).1
    · rfl
  · simp only [if_true]
    split
    · exact (runR_op ks (ws.take ks.length) { begun v with quiet := true } []).1
    · rfl
/-- A loud request of one command that may be quiet, with noreply behind its line. -/
theorem quiet_line {ws : List (List UInt8)} {u u' : Int} (he : (lineS ws [] u).e = 0) (hq : (lineS ws [] u).req.form.quiet = false) {c : Cv} (hc : (lineS ws [] u).req.cmds = [c]) (hop : c.op = 8 ∨ c.op = 2 ∨ c.op = 10 ∨ c.op = 11 ∨ c.op = 13) :
    ∃ d : Dv, lineS ws [] u = ⟨reqD d, ⟨#[]⟩, u, 0, false, 0⟩ ∧ d.quiet = false ∧ lineS (ws ++ [t_noreply]) [] u' = ⟨reqD { d with quiet := true }, ⟨#[]⟩, u', 0, false, 0⟩ := by
  have hf : (readN ws).2 = [] := by
    apply Classical.byContradiction
    intro h
    unfold lineS at he
    rw [if_neg h] at he
    exact absurd he (by show ¬ (2 : Int) = 0; decide)
  obtain ⟨h1, h2, h3⟩ := readN_ok ws
  have hz : (readN ws).1.sized = false := by
    cases hs : (readN ws).1.sized
    · rfl
    · exfalso
      unfold lineS at he
      rw [if_pos hf] at he
      unfold finishN at he
      rw [hs, if_neg (by simp)] at he
      have e3 : (bodyN [] (readN ws).1.size).2.2 = 3 := by
        have := h1.size
        have := h3 hf
        unfold bodyN
        rw [if_neg (by omega), if_pos (by simp; omega)]
      rw [if_pos e3] at he
      exact absurd he (by show ¬ (3 : Int) = 0; decide)
  have hl : ∀ w : Int, lineS ws [] w = ⟨reqD (readN ws).1, ⟨#[]⟩, w, 0, false, 0⟩ := fun w => by
    unfold lineS
    rw [if_pos hf]
    unfold finishN
    rw [if_pos hz]
  rw [hl] at hq hc
  have hqd : (readN ws).1.quiet = false := hq
  have hcd : (readN ws).1.op = c.op := by
    have h : (if (readN ws).1.keys = [] then [cmdD (readN ws).1 []] else (readN ws).1.keys.map (cmdD (readN ws).1)) = [c] := hc
    split at h
    · have := (List.cons.inj h).1
      rw [← this]; rfl
    · cases hk : (readN ws).1.keys with
      | nil => rw [hk] at h; cases h
      | cons x xs =>
        rw [hk] at h
        have := (List.cons.inj h).1
        rw [← this]; rfl
  refine ⟨(readN ws).1, hl u, hqd, ?_⟩
  cases ws with
  | nil => cases hf
  | cons v ws =>
    have er : ∀ x, readN (v :: x) = if opN v = none then (begun v, t_ERROR) else behindN v x := fun x => rfl
    by_cases hn : opN v = none
    · rw [er, if_pos hn] at hf
      cases hf
    · rw [er, if_neg hn] at hf hqd hcd hz ⊢
      rw [behind_op] at hcd
      have hb := behind_quiet hf hqd (by rw [hcd]; exact hop)
      unfold lineS
      rw [List.cons_append, er, if_neg hn, hb]
      simp only [if_true]
      unfold finishN
      simp only [hz, if_true]
end Go.Proofs.YtfcmnkhfmofioaaDoor
