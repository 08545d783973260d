/- The document's own text dialect, as values: its answer to a line of words is that of chapter 14. Conditions: none. The document's own text dialect, as values: each kind of line. Conditions: none. The document's own text dialect, as values: lines that may be quiet, and the whole. Conditions: none. -/
import Derived.Test.YtgekjakihocgnaaDoorG10Joined
import Derived.Lib.ParseIntBCases
namespace Go.Proofs.YtgekjakihocgnaaDoor
set_option linter.unusedVariables false
set_option linter.unusedSimpArgs false

theorem dec_most {l : List UInt8} {n : Nat} (h : dec l = some n) : n ≤ 18446744073709551615 := by
  unfold dec at h
  split at h
  · cases h
  · split at h
    · rename_i u hu
      cases h
      have := Lib.parseUintB_le hu
      have : (2 : Nat) ^ 64 - 1 = 18446744073709551615 := by decide
      omega
    · cases h
/-- get, gets, gat and gats. -/
def rgetsN (v : List UInt8) (ws : List (List UInt8)) (used : Int) : Sv :=
  if v = vb_gat ∨ v = vb_gats then
    match ws with
    | [] => refuseS t_ERROR used
    | [_] => refuseS t_ERROR used
    | x :: k :: ks => if rkeysN (k :: ks) = false then refuseS t_bad used else match sgn x with
      | none => refuseS t_bad used
      | some z => ⟨reqD { begun v with exp := z, keys := k :: ks }, ⟨#[]⟩, used, 0, false, 0⟩
  else
    match ws with
    | [] => refuseS t_ERROR used
    | k :: ks => if rkeysN (k :: ks) = false then refuseS t_bad used else ⟨reqD { begun v with keys := k :: ks }, ⟨#[]⟩, used, 0, false, 0⟩
/-- delete, incr, decr, touch and flush_all. -/
def rothersN (v : List UInt8) (ws : List (List UInt8)) (q : Bool) (used : Int) : Sv :=
  if v = vb_flush then
    match ws with
    | [] => oneS used ⟨13, ⟨#[]⟩, [], 0, 0, 0, 0, 0, false, false⟩ (formO v q [])
    | [x] => (match sgn x with
      | none => refuseS t_bad used
      | some z => oneS used ⟨13, ⟨#[]⟩, [], 0, z, 0, 0, 0, false, false⟩ (formO v q []))
    | _ => refuseS t_ERROR used
  else if v = vb_delete then
    match ws with
    | [x] => if keyN x = false then refuseS t_bad used else oneS used ⟨8, mkB x, [], 0, 0, 0, 0, 0, false, false⟩ (formO v q [mkB x])
    | _ => refuseS t_ERROR used
  else if v = vb_touch then
    match ws with
    | [x, y] => if keyN x = false then refuseS t_bad used else (match sgn y with
      | none => refuseS t_bad used
      | some z => oneS used ⟨2, mkB x, [], 0, z, 0, 0, 0, false, false⟩ (formO v q [mkB x]))
    | _ => refuseS t_ERROR used
  else
    match ws with
    | [x, y] => if keyN x = false then refuseS t_bad used else (match dec y with
      | none => refuseS t_delta used
      | some u => oneS used ⟨if v = vb_decr then 11 else 10, mkB x, [], 0, 0, 0, (u : Int), 0, false, false⟩ (formO v q [mkB x]))
    | _ => refuseS t_ERROR used
def rskip (y : List UInt8) : Int := match dec y with | some u => if u ≤ 1073741824 then (u : Int) + 2 else 0 | none => 0
def rbadS (y : List UInt8) (used : Int) : Sv := { refuseS t_bad used with skip := rskip y }
/-- A line that stores, its words there. -/
def rstN (v : List UInt8) (q : Bool) (x f e y : List UInt8) (cas : Option Nat) (rest : List UInt8) (used : Int) : Sv :=
  if keyN x = false then rbadS y used
  else match dec f with
  | none => rbadS y used
  | some fu => if 4294967295 < fu then rbadS y used else
    match sgn e with
    | none => rbadS y used
    | some z => match dec y with
      | none => rbadS y used
      | some u => match cas with
        | none => rbadS y used
        | some cu =>
          if 1000 < u then { refuseS t_large used with skip := rskip y }
          else if (bodyN rest (u : Int)).2.2 = 3 then moreS
          else if (bodyN rest (u : Int)).2.2 = 2 then { refuseS t_chunk (used + (bodyN rest (u : Int)).2.1) with line := true }
          else oneS (used + (bodyN rest (u : Int)).2.1) ⟨ropN v, mkB x, (bodyN rest (u : Int)).1, (fu : Int), z, (cu : Int), 0, 0, false, false⟩ (formO v q [mkB x])
def rstoresN (v : List UInt8) (ws : List (List UInt8)) (q : Bool) (used : Int) (rest : List UInt8) : Sv :=
  if v = vb_cas then
    match ws with
    | [x, f, e, y, c] => rstN v q x f e y (dec c) rest used
    | _ => refuseS t_ERROR used
  else
    match ws with
    | [x, f, e, y] => rstN v q x f e y (some 0) rest used
    | _ => refuseS t_ERROR used
def rquiet (v : List UInt8) (ws : List (List UInt8)) : Bool := decide (ws ≠ []) && (decide ((ws.length : Int) = rmanyN v) || decide (v = vb_flush ∧ ws.length ≤ 2)) && decide (ws.getLast? = some t_noreply)
/-- The document's answer to a line whose first word is v. -/
def rlineN (v : List UInt8) (ws : List (List UInt8)) (rest : List UInt8) (used : Int) : Sv :=
  if v = vb_get ∨ v = vb_gets ∨ v = vb_gat ∨ v = vb_gats then rgetsN v ws used
  else if v = vb_version ∨ v = vb_quit then rbareS v ws used
  else if 0 ≤ ropN v then rstoresN v (if rquiet v ws then ws.dropLast else ws) (rquiet v ws) used rest
  else if v = vb_delete ∨ v = vb_incr ∨ v = vb_decr ∨ v = vb_touch ∨ v = vb_flush then rothersN v (if rquiet v ws then ws.dropLast else ws) (rquiet v ws) used
  else refuseS t_ERROR used
def lineD (r : Dv × List UInt8) (rest : List UInt8) (used : Int) : Sv := if r.2 = [] then finishN r.1 rest used else { refuseS r.2 used with skip := skipN r.1 }
theorem lineS_D (v : List UInt8) (ws : List (List UInt8)) (rest : List UInt8) (used : Int) (h : opN v ≠ none) : lineS (v :: ws) rest used = lineD (behindN v ws) rest used := by
  have e : readN (v :: ws) = behindN v ws := by
    show (if opN v = none then (begun v, t_ERROR) else behindN v ws) = _
    rw [if_neg h]
  unfold lineS
  rw [e]
  rfl
theorem err_ne : t_ERROR ≠ [] := by decide
theorem lineD_error {d : Dv} (h : d.sized = false) (rest : List UInt8) (used : Int) : lineD (d, t_ERROR) rest used = refuseS t_ERROR used := by
  unfold lineD
  rw [if_neg err_ne]
  unfold skipN
  rw [if_neg (fun e => by rw [h] at e; exact absurd e.1 (by decide))]
  rfl
theorem finish_bare {d : Dv} (h : d.sized = false) (rest : List UInt8) (used : Int) : finishN d rest used = ⟨reqD d, ⟨#[]⟩, used, 0, false, 0⟩ := by
  unfold finishN
  rw [if_pos h]
/-- The same steps, where the line is no kind of command's. -/
theorem behind_at (v : List UInt8) (ws : List (List UInt8)) (ks : List Nat) (q : Bool) (hk : partsN (begun v).op v ws = ks) (hq : quietN (begun v).op ws ks.length = q) : behindN v ws = if (if q then ws.take ks.length else ws).length = ks.length then largeN (runR ks (if q then ws.take ks.length else ws) { begun v with quiet := q } []) else ({ begun v with quiet := q }, t_ERROR) := by
  unfold behindN
  simp only []
  rw [hk, hq]
  cases q <;> rfl
theorem behind_error (v : List UInt8) (ws : List (List UInt8)) (ks : List Nat) (hk : partsN (begun v).op v ws = ks) (hl : ws.length ≠ ks.length) (hq : quietN (begun v).op ws ks.length = false) (rest : List UInt8) (used : Int) : lineD (behindN v ws) rest used = refuseS t_ERROR used := by
  rw [behind_at v ws ks false hk hq]
  simp only [Bool.false_eq_true, if_false]
  rw [if_neg hl]
  exact lineD_error rfl _ _
theorem behind_loud (v : List UInt8) (ws : List (List UInt8)) (ks : List Nat) (hk : partsN (begun v).op v ws = ks) (hl : ws.length = ks.length) : behindN v ws = largeN (runR ks ws { begun v with quiet := false } []) := by
  have hq : quietN (begun v).op ws ks.length = false := by
    unfold quietN
    rw [decide_eq_false (by omega : ¬ ws.length = ks.length + 1)]
    simp
  rw [behind_at v ws ks false hk hq]
  simp only [Bool.false_eq_true, if_false]
  rw [if_pos hl]
theorem behind_hush (v : List UInt8) (ws : List (List UInt8)) (ks : List Nat) (hk : partsN (begun v).op v (ws ++ [t_noreply]) = ks) (hl : ws.length = ks.length) (hm : mayQ (begun v).op = true) : behindN v (ws ++ [t_noreply]) = largeN (runR ks ws { begun v with quiet := true } []) := by
  have hq : quietN (begun v).op (ws ++ [t_noreply]) ks.length = true := by
    unfold quietN
    rw [hm, ← hl]
    simp
  rw [behind_at v _ ks true hk hq]
  simp only [if_true]
  rw [← hl, List.take_left, if_pos rfl]
end Go.Proofs.YtgekjakihocgnaaDoor

namespace Go.Proofs.YtgekjakihocgnaaDoor
set_option linter.unusedVariables false
set_option linter.unusedSimpArgs false

theorem bad_ne : t_bad ≠ [] := by decide
theorem runR_keys : ∀ (ws : List (List UInt8)) (d : Dv) (f : List UInt8), runR (List.replicate ws.length 0) ws d f = ({ d with keys := d.keys ++ ws }, if f = [] then (if ws.all keyN = true ∧ (ws = [] ∨ d.keys.length + ws.length ≤ 16) then [] else t_bad) else f)
  | [], d, f => by
    simp [runR]
  | x :: ws, d, f => by
    rw [List.length_cons, List.replicate_succ]
    show runR (List.replicate ws.length 0) ws (readW 0 d x).1 (if f = [] then (readW 0 d x).2 else f) = _
    rw [runR_keys ws]
    have e1 : (readW 0 d x).1 = { d with keys := d.keys ++ [x] } := rfl
    have e2 : (readW 0 d x).2 = if keyN x = true ∧ d.keys.length + 1 ≤ 16 then [] else t_bad := rfl
    rw [e1, e2]
    simp only [List.append_assoc, List.singleton_append, List.length_append, List.length_singleton]
    congr 1
    by_cases hf : f = []
    · rw [if_pos hf, if_pos hf]
      by_cases hx : keyN x = true ∧ d.keys.length + 1 ≤ 16
      · rw [if_pos hx, if_pos rfl]
        by_cases hw : ws.all keyN = true ∧ (ws = [] ∨ d.keys.length + 1 + ws.length ≤ 16)
        · rw [if_pos hw, if_pos]
          refine ⟨by rw [List.all_cons, hx.1, hw.1]; rfl, .inr ?_⟩
          rcases hw.2 with h | h
          · subst h; exact hx.2
          · omega
        · rw [if_neg hw, if_neg]
          intro h
          apply hw
          have h1 := h.1
          rw [List.all_cons, hx.1, Bool.true_and] at h1
          refine ⟨h1, .inr ?_⟩
          rcases h.2 with h2 | h2
          · cases h2
          · omega
      · rw [if_neg hx, if_neg bad_ne, if_neg]
        intro h
        apply hx
        have h1 := h.1
        rw [List.all_cons, Bool.and_eq_true] at h1
        refine ⟨h1.1, ?_⟩
        rcases h.2 with h2 | h2
        · cases h2
        · omega
    · rw [if_neg hf, if_neg hf, if_neg hf]
theorem keys_fault (ws : List (List UInt8)) (h : ws ≠ []) (d : Dv) (hd : d.keys = []) : (if ws.all keyN = true ∧ (ws = [] ∨ d.keys.length + ws.length ≤ 16) then [] else t_bad) = if rkeysN ws = true then [] else t_bad := by
  rw [hd]
  unfold rkeysN
  by_cases h1 : ws.all keyN = true
  · by_cases h2 : ws.length ≤ 16
    · rw [if_pos ⟨h1, .inr (by simpa using h2)⟩, if_pos (by rw [h1, decide_eq_true h2]; rfl)]
    · rw [if_neg (fun e => by rcases e.2 with e | e; exact h e; exact h2 (by simpa using e)), if_neg (by rw [decide_eq_false h2]; simp)]
  · rw [if_neg (fun e => h1 e.1), if_neg (by simp [h1])]
theorem lineD_bad {d : Dv} (h : d.sized = false) {f : List UInt8} (hf : f ≠ []) (rest : List UInt8) (used : Int) : lineD (d, f) rest used = refuseS f used := by
  unfold lineD
  rw [if_neg hf]
  unfold skipN
  rw [if_neg (fun e => by rw [h] at e; exact absurd e.1 (by decide))]
  rfl
theorem lineD_ok {d : Dv} (h : d.sized = false) (rest : List UInt8) (used : Int) : lineD (d, []) rest used = ⟨reqD d, ⟨#[]⟩, used, 0, false, 0⟩ := by
  unfold lineD
  rw [if_pos rfl]
  exact finish_bare h _ _
theorem large_small {d : Dv} (h : d.size = 0) (f : List UInt8) : largeN (d, f) = (d, f) := by
  unfold largeN
  simp only []
  rw [if_neg (fun e => by rw [h] at e; exact absurd e.2 (by decide))]
/-- get and gets. -/
theorem rget_is {v : List UInt8} (hop : opN v = some 0) (hng : ¬ (v = vb_gat ∨ v = vb_gats)) (ws : List (List UInt8)) (rest : List UInt8) (used : Int) : rgetsN v ws used = lineS (v :: ws) rest used := by
  rw [lineS_D v ws rest used (by rw [hop]; simp)]
  have ho : (begun v).op = 0 := by show (opN v).getD 0 = 0; rw [hop]; rfl
  have hm : ∀ m, quietN (begun v).op ws m = false := fun m => by rw [ho]; rfl
  unfold rgetsN
  rw [if_neg hng]
  cases ws with
  | nil => exact (behind_error v [] [0] (by rw [ho]; rfl) (by decide) (hm _) rest used).symm
  | cons k ks =>
    simp only []
    have hp : partsN (begun v).op v (k :: ks) = List.replicate (k :: ks).length 0 := by
      rw [ho]
      show List.replicate (max (k :: ks).length 1) 0 = _
      rw [Nat.max_eq_left (by simp)]
    rw [behind_loud v (k :: ks) _ hp (by rw [List.length_replicate]), runR_keys, if_pos rfl, keys_fault _ (by simp) _ rfl, large_small rfl]
    cases h : rkeysN (k :: ks)
    · simp only [Bool.false_eq_true, if_false, if_true]
      rw [lineD_bad rfl bad_ne]
    · simp only [if_true, Bool.true_eq_false, if_false]
      rw [lineD_ok rfl]
      rfl
/-- gat and gats. -/
theorem rgat_is {v : List UInt8} (hop : opN v = some 1) (hg : v = vb_gat ∨ v = vb_gats) (ws : List (List UInt8)) (rest : List UInt8) (used : Int) : rgetsN v ws used = lineS (v :: ws) rest used := by
  rw [lineS_D v ws rest used (by rw [hop]; simp)]
  have ho : (begun v).op = 1 := by show (opN v).getD 0 = 1; rw [hop]; rfl
  have hm : ∀ m, quietN (begun v).op ws m = false := fun m => by rw [ho]; rfl
  unfold rgetsN
  rw [if_pos hg]
  match ws, hm with
  | [], hm => exact (behind_error v [] [1, 0] (by rw [ho]; rfl) (by decide) (hm _) rest used).symm
  | [x], hm => exact (behind_error v [x] [1, 0] (by rw [ho]; rfl) (by simp) (hm _) rest used).symm
  | x :: k :: ks, hm =>
    simp only []
    have hp : partsN (begun v).op v (x :: k :: ks) = 1 :: List.replicate (k :: ks).length 0 := by
      rw [ho]
      show 1 :: List.replicate (max ((x :: k :: ks).length - 1) 1) 0 = _
      rw [Nat.max_eq_left (by simp)]
      rfl
    rw [behind_loud v (x :: k :: ks) _ hp (by rw [List.length_cons, List.length_cons (a := 1), List.length_replicate])]
    show _ = lineD (largeN (runR (List.replicate (k :: ks).length 0) (k :: ks) (readW 1 { begun v with quiet := false } x).1 (if ([] : List UInt8) = [] then (readW 1 { begun v with quiet := false } x).2 else []))) rest used
    rw [if_pos rfl, runR_keys]
    have er : readW 1 { begun v with quiet := false } x = match sgn x with | some z => ({ begun v with exp := z, quiet := false }, []) | none => ({ begun v with quiet := false }, t_bad) := rfl
    rw [er]
    cases hz : sgn x with
    | none =>
      simp only []
      rw [if_neg bad_ne, large_small rfl, lineD_bad rfl bad_ne]
      cases h : rkeysN (k :: ks) <;> simp
    | some z =>
      simp only [if_true]
      rw [keys_fault (k :: ks) (by simp) { begun v with exp := z, quiet := false } rfl, large_small rfl]
      cases h : rkeysN (k :: ks)
      · simp only [Bool.false_eq_true, if_false, if_true]
        rw [lineD_bad rfl bad_ne]
      · simp only [if_true, Bool.true_eq_false, if_false]
        rw [lineD_ok rfl]
        rfl
/-- version and quit. -/
theorem rbare_is {v : List UInt8} {o : Int} (hop : opN v = some o) (ho : o = 15 ∨ o = 16) (hv : (if v = vb_quit then (16 : Int) else 15) = o) (hw : decide (v = vb_gets ∨ v = vb_gats) = false) (ws : List (List UInt8)) (rest : List UInt8) (used : Int) : rbareS v ws used = lineS (v :: ws) rest used := by
  rw [lineS_D v ws rest used (by rw [hop]; simp)]
  have hb : (begun v).op = o := by show (opN v).getD 0 = o; rw [hop]; rfl
  have hm : ∀ m, quietN (begun v).op ws m = false := fun m => by rw [hb]; rcases ho with rfl | rfl <;> rfl
  have hp : ∀ x, partsN (begun v).op v x = [] := fun x => by rw [hb]; rcases ho with rfl | rfl <;> rfl
  unfold rbareS
  cases ws with
  | nil =>
    rw [if_pos rfl, behind_loud v [] [] (hp _) rfl]
    show _ = lineD (largeN ({ begun v with quiet := false }, [])) rest used
    rw [large_small rfl, lineD_ok rfl, hv]
    unfold oneS reqD formD cmdD bareC bareF begun
    simp only [if_true, hop, hw, Option.getD_some, List.map_nil]
    rfl
  | cons x xs =>
    rw [if_neg (by simp)]
    exact (behind_error v (x :: xs) [] (hp _) (by simp) (hm _) rest used).symm
end Go.Proofs.YtgekjakihocgnaaDoor

namespace Go.Proofs.YtgekjakihocgnaaDoor
set_option linter.unusedVariables false
set_option linter.unusedSimpArgs false

theorem fixed_ways {v : List UInt8} {ks : List Nat} (hk : ∀ x, partsN (begun v).op v x = ks) (hm : mayQ (begun v).op = true) (hr : rmanyN v = (ks.length : Int) + 1) (hf : v ≠ vb_flush) (ws : List (List UInt8)) :
    (∃ ws1, ws = ws1 ++ [t_noreply] ∧ ws1.length = ks.length ∧ rquiet v ws = true ∧ behindN v ws = largeN (runR ks ws1 { begun v with quiet := true } [])) ∨
    (ws.length = ks.length ∧ rquiet v ws = false ∧ behindN v ws = largeN (runR ks ws { begun v with quiet := false } [])) ∨
    (ws.length ≠ ks.length ∧ rquiet v ws = false ∧ ∀ rest used, lineD (behindN v ws) rest used = refuseS t_ERROR used) := by
  have rq : rquiet v ws = (decide (ws ≠ []) && decide ((ws.length : Int) = (ks.length : Int) + 1) && decide (ws.getLast? = some t_noreply)) := by
    unfold rquiet
    rw [hr, decide_eq_false (p := v = vb_flush ∧ ws.length ≤ 2) (fun e => hf e.1), Bool.or_false]
  by_cases hl : ws.length = ks.length
  · refine .inr (.inl ⟨hl, ?_, behind_loud v ws ks (hk ws) hl⟩)
    rw [rq, decide_eq_false (by omega : ¬ (ws.length : Int) = (ks.length : Int) + 1)]
    simp
  · by_cases hl1 : ws.length = ks.length + 1
    · by_cases hlast : ws.getLast? = some t_noreply
      · obtain ⟨ws1, rfl⟩ : ∃ ws1, ws = ws1 ++ [t_noreply] := by
          have hne : ws ≠ [] := by intro e; subst e; simp at hl1
          rw [List.getLast?_eq_some_getLast hne] at hlast
          exact ⟨ws.dropLast, by rw [← Option.some.inj hlast]; exact (List.dropLast_concat_getLast hne).symm⟩
        have h1 : ws1.length = ks.length := by simp at hl1; exact hl1
        refine .inl ⟨ws1, rfl, h1, ?_, behind_hush v ws1 ks (hk _) h1 hm⟩
        rw [rq, hlast, hl1]
        simp
      · refine .inr (.inr ⟨hl, by rw [rq, decide_eq_false hlast, Bool.and_false], behind_error v ws ks (hk ws) hl ?_⟩)
        unfold quietN
        have : ¬ ws[ks.length]? = some t_noreply := by
          rw [List.getLast?_eq_getElem?, hl1, Nat.add_sub_cancel] at hlast
          exact hlast
        rw [decide_eq_false this, Bool.and_false]
    · refine .inr (.inr ⟨hl, ?_, behind_error v ws ks (hk ws) hl ?_⟩)
      · rw [rq, decide_eq_false (by omega : ¬ (ws.length : Int) = (ks.length : Int) + 1)]
        simp
      · unfold quietN
        rw [decide_eq_false hl1]
        simp
theorem line_fixed {v : List UInt8} {ks : List Nat} {o : Int} (hop : opN v = some o) (hk : ∀ x, partsN o v x = ks) (hm : mayQ o = true) (hr : rmanyN v = (ks.length : Int) + 1) (hf : v ≠ vb_flush) (rest : List UInt8) (used : Int) (F : List (List UInt8) → Bool → Sv)
    (h1 : ∀ ws q, ws.length = ks.length → F ws q = lineD (largeN (runR ks ws { begun v with quiet := q } [])) rest used) (h2 : ∀ ws q, ws.length ≠ ks.length → F ws q = refuseS t_ERROR used) (ws : List (List UInt8)) : F (if rquiet v ws then ws.dropLast else ws) (rquiet v ws) = lineS (v :: ws) rest used := by
  have hb : (begun v).op = o := by show (opN v).getD 0 = o; rw [hop]; rfl
  rw [lineS_D v ws rest used (by rw [hop]; simp)]
  rcases fixed_ways (v := v) (ks := ks) (by rw [hb]; exact hk) (by rw [hb]; exact hm) hr hf ws with ⟨ws1, rfl, e1, e2, e3⟩ | ⟨e1, e2, e3⟩ | ⟨e1, e2, e3⟩
  · rw [e2, e3, if_pos rfl, List.dropLast_concat]
    exact h1 ws1 true e1
  · rw [e2, e3, if_neg (by simp)]
    exact h1 ws false e1
  · rw [e2, e3, if_neg (by simp)]
    exact h2 ws false e1
theorem keyW {d : Dv} (hd : d.keys = []) (x : List UInt8) : readW 0 d x = ({ d with keys := [x] }, if keyN x = true then [] else t_bad) := by
  have : readW 0 d x = ({ d with keys := d.keys ++ [x] }, if keyN x = true ∧ d.keys.length + 1 ≤ 16 then [] else t_bad) := rfl
  rw [this, hd]
  simp
theorem expW (d : Dv) (x : List UInt8) : readW 1 d x = match sgn x with | some z => ({ d with exp := z }, []) | none => (d, t_bad) := rfl
theorem delW (d : Dv) (x : List UInt8) : readW 2 d x = match dec x with | some u => ({ d with del := (u : Int) }, []) | none => (d, t_delta) := by
  have : readW 2 d x = match dec x with | some u => (if u ≤ 18446744073709551615 then ({ d with del := (u : Int) }, []) else (d, t_delta)) | none => (d, t_delta) := rfl
  rw [this]
  cases h : dec x with
  | none => rfl
  | some u =>
    simp only []
    rw [if_pos (dec_most h)]
theorem flW (d : Dv) (x : List UInt8) : readW 3 d x = match dec x with | some u => (if u ≤ 4294967295 then ({ d with fl := (u : Int) }, []) else (d, t_bad)) | none => (d, t_bad) := rfl
theorem sizeW (d : Dv) (x : List UInt8) : readW 4 d x = match dec x with | some u => ({ d with size := (u : Int), sized := true }, []) | none => (d, t_bad) := by
  have : readW 4 d x = match dec x with | some u => (if u ≤ 18446744073709551615 then ({ d with size := (u : Int), sized := true }, []) else (d, t_bad)) | none => (d, t_bad) := rfl
  rw [this]
  cases h : dec x with
  | none => rfl
  | some u =>
    simp only []
    rw [if_pos (dec_most h)]
theorem casW (d : Dv) (x : List UInt8) : readW 5 d x = match dec x with | some u => ({ d with cas := (u : Int) }, []) | none => (d, t_bad) := by
  have : readW 5 d x = match dec x with | some u => (if u ≤ 18446744073709551615 then ({ d with cas := (u : Int) }, []) else (d, t_bad)) | none => (d, t_bad) := rfl
  rw [this]
  cases h : dec x with
  | none => rfl
  | some u =>
    simp only []
    rw [if_pos (dec_most h)]
theorem run_cons (k : Nat) (ks : List Nat) (x : List UInt8) (xs : List (List UInt8)) (d : Dv) (f : List UInt8) : runR (k :: ks) (x :: xs) d f = runR ks xs (readW k d x).1 (if f = [] then (readW k d x).2 else f) := rfl
theorem run_nil (d : Dv) (f : List UInt8) : runR [] [] d f = (d, f) := rfl
theorem begun_of {v : List UInt8} {o : Int} (hop : opN v = some o) (hw : decide (v = vb_gets ∨ v = vb_gats) = false) (q : Bool) : { begun v with quiet := q } = (⟨v, 1, q, false, [], o, [], 0, 0, 0, 0, 0, false⟩ : Dv) := by
  unfold begun
  rw [hop, hw]
  rfl
theorem skip_some {d : Dv} {y : List UInt8} {u : Nat} (hy : dec y = some u) (h1 : d.sized = true) (h2 : d.size = (u : Int)) : skipN d = rskip y := by
  unfold skipN rskip
  rw [hy, h1, h2]
  simp only [true_and]
  by_cases h : u ≤ 1073741824
  · rw [if_pos h, if_pos (by omega)]
  · rw [if_neg h, if_neg (by omega)]
theorem skip_none {d : Dv} {y : List UInt8} (hy : dec y = none) (h1 : d.sized = false) : skipN d = rskip y := by
  unfold skipN rskip
  rw [hy, h1]
  simp
theorem lineD_fault {d : Dv} {f y : List UInt8} (hf : f = t_bad) (hs : skipN d = rskip y) (rest : List UInt8) (used : Int) : lineD (largeN (d, f)) rest used = rbadS y used := by
  subst hf
  have e : largeN (d, t_bad) = (d, t_bad) := by
    unfold largeN
    simp only []
    rw [if_neg (fun e => bad_ne e.1)]
  rw [e]
  unfold lineD rbadS
  rw [if_neg bad_ne, hs]
theorem lineD_good {v x y : List UInt8} {q : Bool} {o fu z cu : Int} {u : Nat} (hy : dec y = some u) (rest : List UInt8) (used : Int) : lineD (largeN ((⟨v, 1, q, false, [x], o, [], fu, z, cu, 0, (u : Int), true⟩ : Dv), [])) rest used =
    if 1000 < u then { refuseS t_large used with skip := rskip y }
    else if (bodyN rest (u : Int)).2.2 = 3 then moreS
    else if (bodyN rest (u : Int)).2.2 = 2 then { refuseS t_chunk (used + (bodyN rest (u : Int)).2.1) with line := true }
    else oneS (used + (bodyN rest (u : Int)).2.1) ⟨o, mkB x, (bodyN rest (u : Int)).1, fu, z, cu, 0, 0, false, false⟩ (formO v q [mkB x]) := by
  by_cases h : 1000 < u
  · have e : largeN ((⟨v, 1, q, false, [x], o, [], fu, z, cu, 0, (u : Int), true⟩ : Dv), []) = ((⟨v, 1, q, false, [x], o, [], fu, z, cu, 0, (u : Int), true⟩ : Dv), t_large) := by
      unfold largeN
      simp only []
      rw [if_pos ⟨trivial, by omega⟩]
    rw [e, if_pos h]
    unfold lineD
    rw [if_neg (by simp [t_large]), skip_some hy rfl rfl]
  · have e : largeN ((⟨v, 1, q, false, [x], o, [], fu, z, cu, 0, (u : Int), true⟩ : Dv), []) = ((⟨v, 1, q, false, [x], o, [], fu, z, cu, 0, (u : Int), true⟩ : Dv), []) := by
      unfold largeN
      simp only []
      rw [if_neg (fun e => by have := e.2; omega)]
    rw [e, if_neg h]
    unfold lineD
    rw [if_pos rfl]
    unfold finishN
    simp only [Bool.true_eq_false, if_false]
    rfl
theorem fl_ways (f : List UInt8) : (dec f = none ∧ True ∧ True) ∨ (∃ u, dec f = some u ∧ ¬ 4294967295 < u ∧ u ≤ 4294967295) ∨ (∃ u, dec f = some u ∧ 4294967295 < u ∧ ¬ u ≤ 4294967295) := by
  cases h : dec f with
  | none => exact .inl ⟨rfl, trivial, trivial⟩
  | some u =>
    by_cases h1 : u ≤ 4294967295
    · exact .inr (.inl ⟨u, rfl, by omega, h1⟩)
    · exact .inr (.inr ⟨u, rfl, by omega, h1⟩)
theorem rst_is {v : List UInt8} {o : Int} (hop : opN v = some o) (hr : ropN v = o) (hw : decide (v = vb_gets ∨ v = vb_gats) = false) (q : Bool) (x f e y : List UInt8) (rest : List UInt8) (used : Int) : rstN v q x f e y (some 0) rest used = lineD (largeN (runR [0, 3, 1, 4] [x, f, e, y] { begun v with quiet := q } [])) rest used := by
  rw [begun_of hop hw]
  unfold rstN
  rw [hr]
  cases hx : keyN x <;> rcases fl_ways f with ⟨hf, hf1, hf2⟩ | ⟨fu, hf, hf1, hf2⟩ | ⟨fu, hf, hf1, hf2⟩ <;> cases he : sgn e <;> cases hy : dec y
  all_goals simp only [run_cons, run_nil, keyW, flW, expW, sizeW, hx, hf, he, hy, if_true, if_false, Bool.false_eq_true, Bool.true_eq_false, hf1, hf2, bad_ne]
  all_goals first
    | (rw [lineD_good hy]; rfl)
    | (rw [lineD_fault rfl (skip_some hy rfl rfl)])
    | (rw [lineD_fault rfl (skip_none hy rfl)])
theorem rca_is {v : List UInt8} {o : Int} (hop : opN v = some o) (hr : ropN v = o) (hw : decide (v = vb_gets ∨ v = vb_gats) = false) (q : Bool) (x f e y c : List UInt8) (rest : List UInt8) (used : Int) : rstN v q x f e y (dec c) rest used = lineD (largeN (runR [0, 3, 1, 4, 5] [x, f, e, y, c] { begun v with quiet := q } [])) rest used := by
  rw [begun_of hop hw]
  unfold rstN
  rw [hr]
  cases hx : keyN x <;> rcases fl_ways f with ⟨hf, hf1, hf2⟩ | ⟨fu, hf, hf1, hf2⟩ | ⟨fu, hf, hf1, hf2⟩ <;> cases he : sgn e <;> cases hy : dec y <;> cases hc : dec c
  all_goals simp only [run_cons, run_nil, keyW, flW, expW, sizeW, casW, hx, hf, he, hy, hc, if_true, if_false, Bool.false_eq_true, Bool.true_eq_false, hf1, hf2, bad_ne]
  all_goals first
    | (rw [lineD_good hy])
    | (rw [lineD_fault rfl (skip_some hy rfl rfl)])
    | (rw [lineD_fault rfl (skip_none hy rfl)])
theorem len1 {ws : List (List UInt8)} (h : ws.length = 1) : ∃ x, ws = [x] := by
  match ws, h with
  | [x], _ => exact ⟨x, rfl⟩
theorem len2 {ws : List (List UInt8)} (h : ws.length = 2) : ∃ x y, ws = [x, y] := by
  match ws, h with
  | [x, y], _ => exact ⟨x, y, rfl⟩
theorem len4 {ws : List (List UInt8)} (h : ws.length = 4) : ∃ x f e y, ws = [x, f, e, y] := by
  match ws, h with
  | [x, f, e, y], _ => exact ⟨x, f, e, y, rfl⟩
theorem len5 {ws : List (List UInt8)} (h : ws.length = 5) : ∃ x f e y c, ws = [x, f, e, y, c] := by
  match ws, h with
  | [x, f, e, y, c], _ => exact ⟨x, f, e, y, c, rfl⟩
theorem line_stores {v : List UInt8} {o : Int} (hop : opN v = some o) (hr : ropN v = o) (hw : decide (v = vb_gets ∨ v = vb_gats) = false) (hc : v ≠ vb_cas) (hf : v ≠ vb_flush) (hk : ∀ x, partsN o v x = [0, 3, 1, 4]) (hm : mayQ o = true) (hn : rmanyN v = 5) (rest : List UInt8) (used : Int) (ws : List (List UInt8)) :
    rstoresN v (if rquiet v ws then ws.dropLast else ws) (rquiet v ws) used rest = lineS (v :: ws) rest used := by
  refine line_fixed (ks := [0, 3, 1, 4]) hop hk hm hn hf rest used (fun ws q => rstoresN v ws q used rest) (fun ws q h => ?_) (fun ws q h => ?_) ws
  · obtain ⟨x, f, e, y, rfl⟩ := len4 h
    simp only [rstoresN, if_neg hc]
    exact rst_is hop hr hw q x f e y rest used
  · simp only [rstoresN, if_neg hc]
    split
    · exact absurd rfl h
    · rfl
theorem line_cas (rest : List UInt8) (used : Int) (ws : List (List UInt8)) : rstoresN vb_cas (if rquiet vb_cas ws then ws.dropLast else ws) (rquiet vb_cas ws) used rest = lineS (vb_cas :: ws) rest used := by
  refine line_fixed (v := vb_cas) (o := 3) (ks := [0, 3, 1, 4, 5]) (by decide) (fun x => rfl) (by decide) (by decide) (by decide) rest used (fun ws q => rstoresN vb_cas ws q used rest) (fun ws q h => ?_) (fun ws q h => ?_) ws
  · obtain ⟨x, f, e, y, c, rfl⟩ := len5 h
    simp only [rstoresN, if_true]
    exact rca_is (o := 3) (by decide) (by decide) (by decide) q x f e y c rest used
  · simp only [rstoresN, if_true]
    split
    · exact absurd rfl h
    · rfl
theorem lineD_plain {d : Dv} (hs : d.sized = false) (h0 : d.size = 0) (rest : List UInt8) (used : Int) : lineD (largeN (d, [])) rest used = ⟨reqD d, ⟨#[]⟩, used, 0, false, 0⟩ := by
  rw [large_small h0, lineD_ok hs]
theorem lineD_no {d : Dv} (hs : d.sized = false) (h0 : d.size = 0) {f : List UInt8} (hf : f ≠ []) (rest : List UInt8) (used : Int) : lineD (largeN (d, f)) rest used = refuseS f used := by
  rw [large_small h0, lineD_bad hs hf]
theorem delta_ne : t_delta ≠ [] := by decide
theorem line_delete (rest : List UInt8) (used : Int) (ws : List (List UInt8)) : rothersN vb_delete (if rquiet vb_delete ws then ws.dropLast else ws) (rquiet vb_delete ws) used = lineS (vb_delete :: ws) rest used := by
  refine line_fixed (v := vb_delete) (o := 8) (ks := [0]) (by decide) (fun x => rfl) (by decide) (by decide) (by decide) rest used (fun ws q => rothersN vb_delete ws q used) (fun ws q h => ?_) (fun ws q h => ?_) ws
  · obtain ⟨x, rfl⟩ := len1 h
    simp only [rothersN, if_true, show ¬ vb_delete = vb_flush by decide, if_false]
    rw [begun_of (o := 8) (by decide) (by decide), run_cons, run_nil, keyW rfl]
    cases hx : keyN x
    · simp only [Bool.false_eq_true, if_false, if_true]
      rw [lineD_no rfl rfl bad_ne]
    · simp only [if_true, Bool.true_eq_false, if_false]
      rw [lineD_plain rfl rfl]
      rfl
  · simp only [rothersN, if_true, show ¬ vb_delete = vb_flush by decide, if_false]
    split
    · exact absurd rfl h
    · rfl
theorem line_touch (rest : List UInt8) (used : Int) (ws : List (List UInt8)) : rothersN vb_touch (if rquiet vb_touch ws then ws.dropLast else ws) (rquiet vb_touch ws) used = lineS (vb_touch :: ws) rest used := by
  refine line_fixed (v := vb_touch) (o := 2) (ks := [0, 1]) (by decide) (fun x => rfl) (by decide) (by decide) (by decide) rest used (fun ws q => rothersN vb_touch ws q used) (fun ws q h => ?_) (fun ws q h => ?_) ws
  · obtain ⟨x, y, rfl⟩ := len2 h
    simp only [rothersN, if_true, show ¬ vb_touch = vb_flush by decide, show ¬ vb_touch = vb_delete by decide, if_false]
    rw [begun_of (o := 2) (by decide) (by decide), run_cons, run_cons, run_nil, keyW rfl, expW]
    cases hx : keyN x <;> cases hy : sgn y
    all_goals simp only [Bool.false_eq_true, if_false, if_true, Bool.true_eq_false, bad_ne]
    · rw [lineD_no rfl rfl bad_ne]
    · rw [lineD_no rfl rfl bad_ne]
    · rw [lineD_no rfl rfl bad_ne]
    · rw [lineD_plain rfl rfl]
      rfl
  · simp only [rothersN, if_true, show ¬ vb_touch = vb_flush by decide, show ¬ vb_touch = vb_delete by decide, if_false]
    split
    · exact absurd rfl h
    · rfl
theorem line_count {v : List UInt8} {o : Int} (hop : opN v = some o) (ho : (if v = vb_decr then (11 : Int) else 10) = o) (hw : decide (v = vb_gets ∨ v = vb_gats) = false) (h1 : ¬ v = vb_flush) (h2 : ¬ v = vb_delete) (h3 : ¬ v = vb_touch) (hk : ∀ x, partsN o v x = [0, 2]) (hm : mayQ o = true) (hn : rmanyN v = 3) (rest : List UInt8) (used : Int) (ws : List (List UInt8)) : rothersN v (if rquiet v ws then ws.dropLast else ws) (rquiet v ws) used = lineS (v :: ws) rest used := by
  refine line_fixed (ks := [0, 2]) hop hk hm hn h1 rest used (fun ws q => rothersN v ws q used) (fun ws q h => ?_) (fun ws q h => ?_) ws
  · obtain ⟨x, y, rfl⟩ := len2 h
    simp only [rothersN, if_neg h1, if_neg h2, if_neg h3]
    rw [begun_of hop hw, run_cons, run_cons, run_nil, keyW rfl, delW, ho]
    cases hx : keyN x <;> cases hy : dec y
    all_goals simp only [Bool.false_eq_true, if_false, if_true, Bool.true_eq_false, bad_ne]
    · rw [lineD_no rfl rfl bad_ne]
    · rw [lineD_no rfl rfl bad_ne]
    · rw [lineD_no rfl rfl delta_ne]
    · rw [lineD_plain rfl rfl]
      rfl
  · simp only [rothersN, if_neg h1, if_neg h2, if_neg h3]
    split
    · exact absurd rfl h
    · rfl
theorem flush_one (q : Bool) (x : List UInt8) (rest : List UInt8) (used : Int) : rothersN vb_flush [x] q used = lineD (largeN (runR [1] [x] { begun vb_flush with quiet := q } [])) rest used := by
  simp only [rothersN, if_true]
  rw [begun_of (o := 13) (by decide) (by decide), run_cons, run_nil, expW]
  cases hx : sgn x
  · simp only [if_true]
    rw [lineD_no rfl rfl bad_ne]
  · simp only [if_true]
    rw [lineD_plain rfl rfl]
    rfl
theorem flush_none (q : Bool) (rest : List UInt8) (used : Int) : rothersN vb_flush [] q used = lineD (largeN (runR [] [] { begun vb_flush with quiet := q } [])) rest used := by
  simp only [rothersN, if_true]
  rw [begun_of (o := 13) (by decide) (by decide), run_nil, lineD_plain rfl rfl]
  rfl
theorem line_flush (rest : List UInt8) (used : Int) (ws : List (List UInt8)) : rothersN vb_flush (if rquiet vb_flush ws then ws.dropLast else ws) (rquiet vb_flush ws) used = lineS (vb_flush :: ws) rest used := by
  rw [lineS_D vb_flush ws rest used (by decide)]
  have hb : (begun vb_flush).op = 13 := by decide
  have hp : ∀ x, partsN 13 vb_flush x = if x ≠ [] ∧ quietN 13 x 0 = false then [1] else [] := fun x => rfl
  have hr : rmanyN vb_flush = 0 := by decide
  match ws with
  | [] =>
    have e : rquiet vb_flush [] = false := rfl
    rw [e, if_neg (by simp), behind_loud vb_flush [] [] (by rw [hb]; rfl) rfl]
    exact flush_none false rest used
  | [x] =>
    by_cases hx : x = t_noreply
    · subst hx
      have e : rquiet vb_flush [t_noreply] = true := by decide
      rw [e, if_pos rfl, show [t_noreply] = ([] : List (List UInt8)) ++ [t_noreply] from rfl, behind_hush vb_flush [] [] (by rw [hb]; decide) rfl (by rw [hb]; rfl)]
      exact flush_none true rest used
    · have e : rquiet vb_flush [x] = false := by
        unfold rquiet
        rw [show ([x] : List (List UInt8)).getLast? = some x from rfl, decide_eq_false (fun h => hx (Option.some.inj h)), Bool.and_false]
      have q0 : quietN 13 [x] 0 = false := by
        unfold quietN
        rw [show ([x] : List (List UInt8))[0]? = some x from rfl, decide_eq_false (fun h => hx (Option.some.inj h)), Bool.and_false]
      rw [e, if_neg (by simp), behind_loud vb_flush [x] [1] (by rw [hb, hp, if_pos ⟨by simp, q0⟩]) rfl]
      exact flush_one false x rest used
  | [x, y] =>
    have q0 : quietN 13 [x, y] 0 = false := by
      unfold quietN
      simp
    by_cases hy : y = t_noreply
    · subst hy
      have e : rquiet vb_flush [x, t_noreply] = true := by
        unfold rquiet
        rw [hr]
        simp
      rw [e, if_pos rfl, show [x, t_noreply] = [x] ++ [t_noreply] from rfl, behind_hush vb_flush [x] [1] (by rw [hb, hp, if_pos ⟨by simp, q0⟩]) rfl (by rw [hb]; rfl)]
      exact flush_one true x rest used
    · have e : rquiet vb_flush [x, y] = false := by
        unfold rquiet
        rw [show ([x, y] : List (List UInt8)).getLast? = some y from rfl, decide_eq_false (fun h => hy (Option.some.inj h)), Bool.and_false]
      have q1 : quietN 13 [x, y] 1 = false := by
        unfold quietN
        rw [show ([x, y] : List (List UInt8))[1]? = some y from rfl, decide_eq_false (fun h => hy (Option.some.inj h)), Bool.and_false]
      rw [e, if_neg (by simp), behind_error vb_flush [x, y] [1] (by rw [hb, hp, if_pos ⟨by simp, q0⟩]) (by simp) (by rw [hb]; exact q1)]
      rfl
  | x :: y :: z :: zs =>
    have q0 : quietN 13 (x :: y :: z :: zs) 0 = false := by
      unfold quietN
      simp
    have q1 : quietN 13 (x :: y :: z :: zs) 1 = false := by
      unfold quietN
      simp
    have e : rquiet vb_flush (x :: y :: z :: zs) = false := by
      unfold rquiet
      rw [hr, decide_eq_false (p := ((x :: y :: z :: zs).length : Int) = 0) (by simp; omega), decide_eq_false (p := vb_flush = vb_flush ∧ (x :: y :: z :: zs).length ≤ 2) (fun h => by have := h.2; simp at this)]
      simp
    rw [e, if_neg (by simp), behind_error vb_flush (x :: y :: z :: zs) [1] (by rw [hb, hp, if_pos ⟨by simp, q0⟩]) (by simp) (by rw [hb]; exact q1)]
    rfl
/-- The document's answer to a line is that of chapter 14. -/
theorem rline_is (v : List UInt8) (ws : List (List UInt8)) (rest : List UInt8) (used : Int) : rlineN v ws rest used = lineS (v :: ws) rest used := by
  unfold rlineN
  rcases verbs v with rfl | rfl | rfl | rfl | rfl | rfl | rfl | rfl | rfl | rfl | rfl | rfl | rfl | rfl | rfl | rfl | rfl | h
  · rw [if_pos (by decide)]; exact rget_is (by decide) (by decide) ws rest used
  · rw [if_pos (by decide)]; exact rget_is (by decide) (by decide) ws rest used
  · rw [if_pos (by decide)]; exact rgat_is (by decide) (by decide) ws rest used
  · rw [if_pos (by decide)]; exact rgat_is (by decide) (by decide) ws rest used
  · rw [if_neg (by decide), if_neg (by decide), if_pos (by decide)]
    exact line_stores (o := 3) (by decide) (by decide) (by decide) (by decide) (by decide) (fun x => rfl) (by decide) (by decide) rest used ws
  · rw [if_neg (by decide), if_neg (by decide), if_pos (by decide)]
    exact line_cas rest used ws
  · rw [if_neg (by decide), if_neg (by decide), if_pos (by decide)]
    exact line_stores (o := 4) (by decide) (by decide) (by decide) (by decide) (by decide) (fun x => rfl) (by decide) (by decide) rest used ws
  · rw [if_neg (by decide), if_neg (by decide), if_pos (by decide)]
    exact line_stores (o := 5) (by decide) (by decide) (by decide) (by decide) (by decide) (fun x => rfl) (by decide) (by decide) rest used ws
  · rw [if_neg (by decide), if_neg (by decide), if_pos (by decide)]
    exact line_stores (o := 6) (by decide) (by decide) (by decide) (by decide) (by decide) (fun x => rfl) (by decide) (by decide) rest used ws
  · rw [if_neg (by decide), if_neg (by decide), if_pos (by decide)]
    exact line_stores (o := 7) (by decide) (by decide) (by decide) (by decide) (by decide) (fun x => rfl) (by decide) (by decide) rest used ws
  · rw [if_neg (by decide), if_neg (by decide), if_neg (by decide), if_pos (by decide)]
    exact line_delete rest used ws
  · rw [if_neg (by decide), if_neg (by decide), if_neg (by decide), if_pos (by decide)]
    exact line_count (o := 10) (by decide) (by decide) (by decide) (by decide) (by decide) (by decide) (fun x => rfl) (by decide) (by decide) rest used ws
  · rw [if_neg (by decide), if_neg (by decide), if_neg (by decide), if_pos (by decide)]
    exact line_count (o := 11) (by decide) (by decide) (by decide) (by decide) (by decide) (by decide) (fun x => rfl) (by decide) (by decide) rest used ws
  · rw [if_neg (by decide), if_neg (by decide), if_neg (by decide), if_pos (by decide)]
    exact line_touch rest used ws
  · rw [if_neg (by decide), if_neg (by decide), if_neg (by decide), if_pos (by decide)]
    exact line_flush rest used ws
  · rw [if_neg (by decide), if_pos (by decide)]
    exact rbare_is (o := 15) (by decide) (by decide) (by decide) (by decide) ws rest used
  · rw [if_neg (by decide), if_pos (by decide)]
    exact rbare_is (o := 16) (by decide) (by decide) (by decide) (by decide) ws rest used
  · have h_get : ¬ v = vb_get := by simpa using h.get_
    have h_gets : ¬ v = vb_gets := by simpa using h.gets_
    have h_gat : ¬ v = vb_gat := by simpa using h.gat_
    have h_gats : ¬ v = vb_gats := by simpa using h.gats_
    have h_set : ¬ v = vb_set := by simpa using h.set_
    have h_cas : ¬ v = vb_cas := by simpa using h.cas_
    have h_add : ¬ v = vb_add := by simpa using h.add_
    have h_replace : ¬ v = vb_replace := by simpa using h.replace_
    have h_append : ¬ v = vb_append := by simpa using h.append_
    have h_prepend : ¬ v = vb_prepend := by simpa using h.prepend_
    have h_delete : ¬ v = vb_delete := by simpa using h.delete_
    have h_incr : ¬ v = vb_incr := by simpa using h.incr_
    have h_decr : ¬ v = vb_decr := by simpa using h.decr_
    have h_touch : ¬ v = vb_touch := by simpa using h.touch_
    have h_flush : ¬ v = vb_flush := by simpa using h.flush_
    have h_version : ¬ v = vb_version := by simpa using h.version_
    have h_quit : ¬ v = vb_quit := by simpa using h.quit_
    have hr : ropN v = -1 := by
      unfold ropN
      simp only [h_set, h_cas, h_add, h_replace, h_append, h_prepend, or_self, if_false]
    rw [if_neg (by simp only [h_get, h_gets, h_gat, h_gats, or_self, not_false_iff]), if_neg (by simp only [h_version, h_quit, or_self, not_false_iff]), if_neg (by rw [hr]; decide), if_neg (by simp only [h_delete, h_incr, h_decr, h_touch, h_flush, or_self, not_false_iff])]
    unfold lineS
    have e : readN (v :: ws) = (begun v, t_ERROR) := by
      show (if opN v = none then (begun v, t_ERROR) else behindN v ws) = _
      rw [if_pos (NoVerb.op h)]
    rw [e, if_neg err_ne]
    have e2 : skipN (begun v) = 0 := by
      unfold skipN
      rw [if_neg (fun e => absurd e.1 (by show ¬ false = true; decide))]
    rw [e2]
    rfl
end Go.Proofs.YtgekjakihocgnaaDoor
