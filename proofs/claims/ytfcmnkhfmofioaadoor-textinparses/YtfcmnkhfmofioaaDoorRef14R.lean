/- The document's own text dialect, as values: lines that may be quiet, and the whole. Conditions: none. -/
import Derived.Test.YtfcmnkhfmofioaaDoorRef14Q
namespace Go.Proofs.YtfcmnkhfmofioaaDoor
set_option linter.unusedVariables false
set_option linter.unusedSimpArgs false

theorem fixed_ways {v : List UInt8} {ks : List Nat} (hk : ∀ x, partsN (begun v).op v x = ks) (hm : mayQ (begun v).op = true) (hr : rmanyN v = (ks.length : Int) + 1) (hf : v ≠ vb_flush) (ws : List (List UInt8)) :
    (∃ ws1, ws = ws1 ++ [t_noreply] ∧ ws1.length = ks.length ∧ rquiet v ws = true ∧ behindN v ws = largeN (runR ks ws1 { begun v with quiet := true } [])) ∨
    (ws.length = ks.length ∧ rquiet v ws = false ∧ behindN v ws = largeN (runR ks ws { begun v with quiet := false } [])) ∨
    (ws.length ≠ ks.length ∧ rquiet v ws = false ∧ ∀ rest used, lineD (behindN v ws) rest used = refuseS t_ERROR used) := by
  have rq : rquiet v ws = (decide (ws ≠ []) && decide ((ws.length : Int) = (ks.length : Int) + 1) && decide (ws.getLast? = some t_noreply)) := by
    unfold rquiet
    rw [hr, decide_eq_false (p := v = vb_flush ∧ ws.length ≤ 2) (fun e => hf e.1), Bool.or_false]
  by_cases hl : ws.length = ks.length
  · refine .inr (.inl ⟨hl, ?_, behind_loud v ws ks (hk ws) hl⟩)
    rw [rq, decide_eq_false (by omega : ¬ (ws.length : Int) = (ks.length : Int) + 1)]
    simp
  · by_cases hl1 : ws.length = ks.length + 1
    · by_cases hlast : ws.getLast? = some t_noreply
      · obtain ⟨ws1, rfl⟩ : ∃ ws1, ws = ws1 ++ [t_noreply] := by
          have hne : ws ≠ [] := by intro e; subst e; simp at hl1
          rw [List.getLast?_eq_some_getLast hne] at hlast
          exact ⟨ws.dropLast, by rw [← Option.some.inj hlast]; exact (List.dropLast_concat_getLast hne).symm⟩
        have h1 : ws1.length = ks.length := by simp at hl1; exact hl1
        refine .inl ⟨ws1, rfl, h1, ?_, behind_hush v ws1 ks (hk _) h1 hm⟩
        rw [rq, hlast, hl1]
        simp
      · refine .inr (.inr ⟨hl, by rw [rq, decide_eq_false hlast, Bool.and_false], behind_error v ws ks (hk ws) hl ?_⟩)
        unfold quietN
        have : ¬ ws[ks.length]? = some t_noreply := by
          rw [List.getLast?_eq_getElem?, hl1, Nat.add_sub_cancel] at hlast
          exact hlast
        rw [decide_eq_false this, Bool.and_false]
    · refine .inr (.inr ⟨hl, ?_, behind_error v ws ks (hk ws) hl ?_⟩)
      · rw [rq, decide_eq_false (by omega : ¬ (ws.length : Int) = (ks.length : Int) + 1)]
        simp
      · unfold quietN
        rw [decide_eq_false hl1]
        simp
theorem line_fixed {v : List UInt8} {ks : List Nat} {o : Int} (hop : opN v = some o) (hk : ∀ x, partsN o v x = ks) (hm : mayQ o = true) (hr : rmanyN v = (ks.length : Int) + 1) (hf : v ≠ vb_flush) (rest : List UInt8) (used : Int) (F : List (List UInt8) → Bool → Sv)
    (h1 : ∀ ws q, ws.length = ks.length → F ws q = lineD (largeN (runR ks ws { begun v with quiet := q } [])) rest used) (h2 : ∀ ws q, ws.length ≠ ks.length → F ws q = refuseS t_ERROR used) (ws : List (List UInt8)) : F (if rquiet v ws then ws.dropLast else ws) (rquiet v ws) = lineS (v :: ws) rest used := by
  have hb : (begun v).op = o := by show (opN v).getD 0 = o; rw [hop]; rfl
  rw [lineS_D v ws rest used (by rw [hop]; simp)]
  rcases fixed_ways (v := v) (ks := ks) (by rw [hb]; exact hk) (by rw [hb]; exact hm) hr hf ws with ⟨ws1, rfl, e1, e2, e3⟩ | ⟨e1, e2, e3⟩ | ⟨e1, e2, e3⟩
  · rw [e2, e3, if_pos rfl, List.dropLast_concat]
    exact h1 ws1 true e1
  · rw [e2, e3, if_neg (by simp)]
    exact h1 ws false e1
  · rw [e2, e3, if_neg (by simp)]
    exact h2 ws false e1
theorem keyW {d : Dv} (hd : d.keys = []) (x : List UInt8) : readW 0 d x = ({ d with keys := [x] }, if keyN x = true then [] else t_bad) := by
  have : readW 0 d x = ({ d with keys := d.keys ++ [x] }, if keyN x = true ∧ d.keys.length + 1 ≤ 16 then [] else t_bad) := rfl
  rw [this, hd]
  simp
theorem expW (d : Dv) (x : List UInt8) : readW 1 d x = match sgn x with | some z => ({ d with exp := z }, []) | none => (d, t_bad) := rfl
theorem delW (d : Dv) (x : List UInt8) : readW 2 d x = match dec x with | some u => ({ d with del := (u : Int) }, []) | none => (d, t_delta) := by
  have : readW 2 d x = match dec x with | some u => (if u ≤ 18446744073709551615 then ({ d with del := (u : Int) }, []) else (d, t_delta)) | none => (d, t_delta) := rfl
  rw [this]
  cases h : dec x with
  | none => rfl
  | some u =>
    simp only []
    rw [if_pos (dec_most h)]
theorem flW (d : Dv) (x : List UInt8) : readW 3 d x = match dec x with | some u => (if u ≤ 4294967295 then ({ d with fl := (u : Int) }, []) else (d, t_bad)) | none => (d, t_bad) := rfl
theorem sizeW (d : Dv) (x : List UInt8) : readW 4 d x = match dec x with | some u => ({ d with size := (u : Int), sized := true }, []) | none => (d, t_bad) := by
  have : readW 4 d x = match dec x with | some u => (if u ≤ 18446744073709551615 then ({ d with size := (u : Int), sized := true }, []) else (d, t_bad)) | none => (d, t_bad) := rfl
  rw [this]
  cases h : dec x with
  | none => rfl
  | some u =>
    simp only []
    rw [if_pos (dec_most h)]
theorem casW (d : Dv) (x : List UInt8) : readW 5 d x = match dec x with | some u => ({ d with cas := (u : Int) }, []) | none => (d, t_bad) := by
  have : readW 5 d x = match dec x with | some u => (if u ≤ 18446744073709551615 then ({ d with cas := (u : Int) }, []) else (d, t_bad)) | none => (d, t_bad) := rfl
  rw [this]
  cases h : dec x with
  | none => rfl
  | some u =>
    simp only []
    rw [if_pos (dec_most h)]
theorem run_cons (k : Nat) (ks : List Nat) (x : List UInt8) (xs : List (List UInt8)) (d : Dv) (f : List UInt8) : runR (k :: ks) (x :: xs) d f = runR ks xs (readW k d x).1 (if f = [] then (readW k d x).2 else f) := rfl
theorem run_nil (d : Dv) (f : List UInt8) : runR [] [] d f = (d, f) := rfl
theorem begun_of {v : List UInt8} {o : Int} (hop : opN v = some o) (hw : decide (v = vb_gets ∨ v = vb_gats) = false) (q : Bool) : { begun v with quiet := q } = (⟨v, 1, q, false, [], o, [], 0, 0, 0, 0, 0, false⟩ : Dv) := by
  unfold begun
  rw [hop, hw]
  rfl
theorem skip_some {d : Dv} {y : List UInt8} {u : Nat} (hy : dec y = some u) (h1 : d.sized = true) (h2 : d.size = (u : Int)) : skipN d = rskip y := by
  unfold skipN rskip
  rw [hy, h1, h2]
  simp only [true_and]
  by_cases h : u ≤ 1073741824
  · rw [if_pos h, if_pos (by omega)]
  · rw [if_neg h, if_neg (by omega)]
theorem skip_none {d : Dv} {y : List UInt8} (hy : dec y = none) (h1 : d.sized = false) : skipN d = rskip y := by
  unfold skipN rskip
  rw [hy, h1]
  simp
theorem lineD_fault {d : Dv} {f y : List UInt8} (hf : f = t_bad) (hs : skipN d = rskip y) (rest : List UInt8) (used : Int) : lineD (largeN (d, f)) rest used = rbadS y used := by
  subst hf
  have e : largeN (d, t_bad) = (d, t_bad) := by
    unfold largeN
    simp only []
    rw [if_neg (fun e => bad_ne e.1)]
  rw [e]
  unfold lineD rbadS
  rw [if_neg bad_ne, hs]
theorem lineD_good {v x y : List UInt8} {q : Bool} {o fu z cu : Int} {u : Nat} (hy : dec y = some u) (rest : List UInt8) (used : Int) : lineD (largeN ((⟨v, 1, q, false, [x], o, [], fu, z, cu, 0, (u : Int), true⟩ : Dv), [])) rest used =
    if 1000 < u then { refuseS t_large used with skip := rskip y }
    else if (bodyN rest (u : Int)).2.2 = 3 then moreS
    else if (bodyN rest (u : Int)).2.2 = 2 then { refuseS t_chunk (used + (bodyN rest (u : Int)).2.1) with line := true }
    else oneS (used + (bodyN rest (u : Int)).2.1) ⟨o, mkB x, (bodyN rest (u : Int)).1, fu, z, cu, 0, 0, false, false⟩ (formO v q [mkB x]) := by
  by_cases h : 1000 < u
  · have e : largeN ((⟨v, 1, q, false, [x], o, [], fu, z, cu, 0, (u : Int), true⟩ : Dv), []) = ((⟨v, 1, q, false, [x], o, [], fu, z, cu, 0, (u : Int), true⟩ : Dv), t_large) := by
      unfold largeN
      simp only []
      rw [if_pos ⟨trivial, by omega⟩]
    rw [e, if_pos h]
    unfold lineD
    rw [if_neg (by simp [t_large]), skip_some hy rfl rfl]
  · have e : largeN ((⟨v, 1, q, false, [x], o, [], fu, z, cu, 0, (u : Int), true⟩ : Dv), []) = ((⟨v, 1, q, false, [x], o, [], fu, z, cu, 0, (u : Int), true⟩ : Dv), []) := by
      unfold largeN
      simp only []
      rw [if_neg (fun e => by have := e.2; omega)]
    rw [e, if_neg h]
    unfold lineD
    rw [if_pos rfl]
    unfold finishN
    simp only [Bool.true_eq_false, if_false]
    rfl
theorem fl_ways (f : List UInt8) : (dec f = none ∧ True ∧ True) ∨ (∃ u, dec f = some u ∧ ¬ 4294967295 < u ∧ u ≤ 4294967295) ∨ (∃ u, dec f = some u ∧ 4294967295 < u ∧ ¬ u ≤ 4294967295) := by
  cases h : dec f with
  | none => exact .inl ⟨rfl, trivial, trivial⟩
  | some u =>
    by_cases h1 : u ≤ 4294967295
    · exact .inr (.inl ⟨u, rfl, by omega, h1⟩)
    · exact .inr (.inr ⟨u, rfl, by omega, h1⟩)
theorem rst_is {v : List UInt8} {o : Int} (hop : opN v = some o) (hr : ropN v = o) (hw : decide (v = vb_gets ∨ v = vb_gats) = false) (q : Bool) (x f e y : List UInt8) (rest : List UInt8) (used : Int) : rstN v q x f e y (some 0) rest used = lineD (largeN (runR [0, 3, 1, 4] [x, f, e, y] { begun v with quiet := q } [])) rest used := by
  rw [begun_of hop hw]
  unfold rstN
  rw [hr]
  cases hx : keyN x <;> rcases fl_ways f with ⟨hf, hf1, hf2⟩ | ⟨fu, hf, hf1, hf2⟩ | ⟨fu, hf, hf1, hf2⟩ <;> cases he : sgn e <;> cases hy : dec y
  all_goals simp only [run_cons, run_nil, keyW, flW, expW, sizeW, hx, hf, he, hy, if_true, if_false, Bool.false_eq_true, Bool.true_eq_false, hf1, hf2, bad_ne]
  all_goals first
    | (rw [lineD_good hy]; rfl)
    | (rw [lineD_fault rfl (skip_some hy rfl rfl)])
    | (rw [lineD_fault rfl (skip_none hy rfl)])
theorem rca_is {v : List UInt8} {o : Int} (hop : opN v = some o) (hr : ropN v = o) (hw : decide (v = vb_gets ∨ v = vb_gats) = false) (q : Bool) (x f e y c : List UInt8) (rest : List UInt8) (used : Int) : rstN v q x f e y (dec c) rest used = lineD (largeN (runR [0, 3, 1, 4, 5] [x, f, e, y, c] { begun v with quiet := q } [])) rest used := by
  rw [begun_of hop hw]
  unfold rstN
  rw [hr]
  cases hx : keyN x <;> rcases fl_ways f with ⟨hf, hf1, hf2⟩ | ⟨fu, hf, hf1, hf2⟩ | ⟨fu, hf, hf1, hf2⟩ <;> cases he : sgn e <;> cases hy : dec y <;> cases hc : dec c
  all_goals simp only [run_cons, run_nil, keyW, flW, expW, sizeW, casW, hx, hf, he, hy, hc, if_true, if_false, Bool.false_eq_true, Bool.true_eq_false, hf1, hf2, bad_ne]
  all_goals first
    | (rw [lineD_good hy])
    | (rw [lineD_fault rfl (skip_some hy rfl rfl)])
    | (rw [lineD_fault rfl (skip_none hy rfl)])
theorem len1 {ws : List (List UInt8)} (h : ws.length = 1) : ∃ x, ws = [x] := by
  match ws, h with
  | [x], _ => exact ⟨x, rfl⟩
theorem len2 {ws : List (List UInt8)} (h : ws.length = 2) : ∃ x y, ws = [x, y] := by
  match ws, h with
  | [x, y], _ => exact ⟨x, y, rfl⟩
theorem len4 {ws : List (List UInt8)} (h : ws.length = 4) : ∃ x f e y, ws = [x, f, e, y] := by
  match ws, h with
  | [x, f, e, y], _ => exact ⟨x, f, e, y, rfl⟩
theorem len5 {ws : List (List UInt8)} (h : ws.length = 5) : ∃ x f e y c, ws = [x, f, e, y, c] := by
  match ws, h with
  | [x, f, e, y, c], _ => exact ⟨x, f, e, y, c, rfl⟩
theorem line_stores {v : List UInt8} {o : Int} (hop : opN v = some o) (hr : ropN v = o) (hw : decide (v = vb_gets ∨ v = vb_gats) = false) (hc : v ≠ vb_cas) (hf : v ≠ vb_flush) (hk : ∀ x, partsN o v x = [0, 3, 1, 4]) (hm : mayQ o = true) (hn : rmanyN v = 5) (rest : List UInt8) (used : Int) (ws : List (List UInt8)) :
    rstoresN v (if rquiet v ws then ws.dropLast else ws) (rquiet v ws) used rest = lineS (v :: ws) rest used := by
  refine line_fixed (ks := [0, 3, 1, 4]) hop hk hm hn hf rest used (fun ws q => rstoresN v ws q used rest) (fun ws q h => ?_) (fun ws q h => ?_) ws
  · obtain ⟨x, f, e, y, rfl⟩ := len4 h
    simp only [rstoresN, if_neg hc]
    exact rst_is hop hr hw q x f e y rest used
  · simp only [rstoresN, if_neg hc]
    split
    · exact absurd rfl h
    · rfl
theorem line_cas (rest : List UInt8) (used : Int) (ws : List (List UInt8)) : rstoresN vb_cas (if rquiet vb_cas ws then ws.dropLast else ws) (rquiet vb_cas ws) used rest = lineS (vb_cas :: ws) rest used := by
  refine line_fixed (v := vb_cas) (o := 3) (ks := [0, 3, 1, 4, 5]) (by decide) (fun x => rfl) (by decide) (by decide) (by decide) rest used (fun ws q => rstoresN vb_cas ws q used rest) (fun ws q h => ?_) (fun ws q h => ?_) ws
  · obtain ⟨x, f, e, y, c, rfl⟩ := len5 h
    simp only [rstoresN, if_true]
    exact rca_is (o := 3) (by decide) (by decide) (by decide) q x f e y c rest used
  · simp only [rstoresN, if_true]
    split
    · exact absurd rfl h
    · rfl
theorem lineD_plain {d : Dv} (hs : d.sized = false) (h0 : d.size = 0) (rest : List UInt8) (used : Int) : lineD (largeN (d, [])) rest used = ⟨reqD d, ⟨#[]⟩, used, 0, false, 0⟩ := by
  rw [large_small h0, lineD_ok hs]
theorem lineD_no {d : Dv} (hs : d.sized = false) (h0 : d.size = 0) {f : List UInt8} (hf : f ≠ []) (rest : List UInt8) (used : Int) : lineD (largeN (d, f)) rest used = refuseS f used := by
  rw [large_small h0, lineD_bad hs hf]
theorem delta_ne : t_delta ≠ [] := by decide
theorem line_delete (rest : List UInt8) (used : Int) (ws : List (List UInt8)) : rothersN vb_delete (if rquiet vb_delete ws then ws.dropLast else ws) (rquiet vb_delete ws) used = lineS (vb_delete :: ws) rest used := by
  refine line_fixed (v := vb_delete) (o := 8) (ks := [0]) (by decide) (fun x => rfl) (by decide) (by decide) (by decide) rest used (fun ws q => rothersN vb_delete ws q used) (fun ws q h => ?_) (fun ws q h => ?_) ws
  · obtain ⟨x, rfl⟩ := len1 h
    simp only [rothersN, if_true, show ¬ vb_delete = vb_flush by decide, if_false]
    rw [begun_of (o := 8) (by decide) (by decide), run_cons, run_nil, keyW rfl]
    cases hx : keyN x
    · simp only [Bool.false_eq_true, if_false, if_true]
      rw [lineD_no rfl rfl bad_ne]
    · simp only [if_true, Bool.true_eq_false, if_false]
      rw [lineD_plain rfl rfl]
      rfl
  · simp only [rothersN, if_true, show ¬ vb_delete = vb_flush by decide, if_false]
    split
    · exact absurd rfl h
    · rfl
theorem line_touch (rest : List UInt8) (used : Int) (ws : List (List UInt8)) : rothersN vb_touch (if rquiet vb_touch ws then ws.dropLast else ws) (rquiet vb_touch ws) used = lineS (vb_touch :: ws) rest used := by
  refine line_fixed (v := vb_touch) (o := 2) (ks := [0, 1]) (by decide) (fun x => rfl) (by decide) (by decide) (by decide) rest used (fun ws q => rothersN vb_touch ws q used) (fun ws q h => ?_) (fun ws q h => ?_) ws
  · obtain ⟨x, y, rfl⟩ := len2 h
    simp only [rothersN, if_true, show ¬ vb_touch = vb_flush by decide, show ¬ vb_touch = vb_delete by decide, if_false]
    rw [begun_of (o := 2) (by decide) (by decide), run_cons, run_cons, run_nil, keyW rfl, expW]
    cases hx : keyN x <;> cases hy : sgn y
    all_goals simp only [Bool.false_eq_true, if_false, if_true, Bool.true_eq_false, bad_ne]
    · rw [lineD_no rfl rfl bad_ne]
    · rw [lineD_no rfl rfl bad_ne]
    · rw [lineD_no rfl rfl bad_ne]
    · rw [lineD_plain rfl rfl]
      rfl
  · simp only [rothersN, if_true, show ¬ vb_touch = vb_flush by decide, show ¬ vb_touch = vb_delete by decide, if_false]
    split
    · exact absurd rfl h
    · rfl
theorem line_count {v : List UInt8} {o : Int} (hop : opN v = some o) (ho : (if v = vb_decr then (11 : Int) else 10) = o) (hw : decide (v = vb_gets ∨ v = vb_gats) = false) (h1 : ¬ v = vb_flush) (h2 : ¬ v = vb_delete) (h3 : ¬ v = vb_touch) (hk : ∀ x, partsN o v x = [0, 2]) (hm : mayQ o = true) (hn : rmanyN v = 3) (rest : List UInt8) (used : Int) (ws : List (List UInt8)) : rothersN v (if rquiet v ws then ws.dropLast else ws) (rquiet v ws) used = lineS (v :: ws) rest used := by
  refine line_fixed (ks := [0, 2]) hop hk hm hn h1 rest used (fun ws q => rothersN v ws q used) (fun ws q h => ?_) (fun ws q h => ?_) ws
  · obtain ⟨x, y, rfl⟩ := len2 h
    simp only [rothersN, if_neg h1, if_neg h2, if_neg h3]
    rw [begun_of hop hw, run_cons, run_cons, run_nil, keyW rfl, delW, ho]
    cases hx : keyN x <;> cases hy : dec y
    all_goals simp only [Bool.false_eq_true, if_false, if_true, Bool.true_eq_false, bad_ne]
    · rw [lineD_no rfl rfl bad_ne]
    · rw [lineD_no rfl rfl bad_ne]
    · rw [lineD_no rfl rfl delta_ne]
    · rw [lineD_plain rfl rfl]
      rfl
  · simp only [rothersN, if_neg h1, if_neg h2, if_neg h3]
    split
    · exact absurd rfl h
    · rfl
theorem flush_one (q : Bool) (x : List UInt8) (rest : List UInt8) (used : Int) : rothersN vb_flush [x] q used = lineD (largeN (runR [1] [x] { begun vb_flush with quiet := q } [])) rest used := by
  simp only [rothersN, if_true]
  rw [begun_of (o := 13) (by decide) (by decide), run_cons, run_nil, expW]
  cases hx : sgn x
  · simp only [if_true]
    rw [lineD_no rfl rfl bad_ne]
  · simp only [if_true]
    rw [lineD_plain rfl rfl]
    rfl
theorem flush_none (q : Bool) (rest : List UInt8) (used : Int) : rothersN vb_flush [] q used = lineD (largeN (runR [] [] { begun vb_flush with quiet := q } [])) rest used := by
  simp only [rothersN, if_true]
  rw [begun_of (o := 13) (by decide) (by decide), run_nil, lineD_plain rfl rfl]
  rfl
theorem line_flush (rest : List UInt8) (used : Int) (ws : List (List UInt8)) : rothersN vb_flush (if rquiet vb_flush ws then ws.dropLast else ws) (rquiet vb_flush ws) used = lineS (vb_flush :: ws) rest used := by
  rw [lineS_D vb_flush ws rest used (by decide)]
  have hb : (begun vb_flush).op = 13 := by decide
  have hp : ∀ x, partsN 13 vb_flush x = if x ≠ [] ∧ quietN 13 x 0 = false then [1] else [] := fun x => rfl
  have hr : rmanyN vb_flush = 0 := by decide
  match ws with
  | [] =>
    have e : rquiet vb_flush [] = false := rfl
    rw [e, if_neg (by simp), behind_loud vb_flush [] [] (by rw [hb]; rfl) rfl]
    exact flush_none false rest used
  | [x] =>
    by_cases hx : x = t_noreply
    · subst hx
      have e : rquiet vb_flush [t_noreply] = true := by decide
      rw [e, if_pos rfl, show [t_noreply] = ([] : List (List UInt8)) ++ [t_noreply] from rfl, behind_hush vb_flush [] [] (by rw [hb]; decide) rfl (by rw [hb]; rfl)]
      exact flush_none true rest used
    · have e : rquiet vb_flush [x] = false := by
        unfold rquiet
        rw [show ([x] : List (List UInt8)).getLast? = some x from rfl, decide_eq_false (fun h => hx (Option.some.inj h)), Bool.and_false]
      have q0 : quietN 13 [x] 0 = false := by
        unfold quietN
        rw [show ([x] : List (List UInt8))[0]? = some x from rfl, decide_eq_false (fun h => hx (Option.some.inj h)), Bool.and_false]
      rw [e, if_neg (by simp), behind_loud vb_flush [x] [1] (by rw [hb, hp, if_pos ⟨by simp, q0⟩]) rfl]
      exact flush_one false x rest used
  | [x, y] =>
    have q0 : quietN 13 [x, y] 0 = false := by
      unfold quietN
      simp
    by_cases hy : y = t_noreply
    · subst hy
      have e : rquiet vb_flush [x, t_noreply] = true := by
        unfold rquiet
        rw [hr]
        simp
      rw [e, if_pos rfl, show [x, t_noreply] = [x] ++ [t_noreply] from rfl, behind_hush vb_flush [x] [1] (by rw [hb, hp, if_pos ⟨by simp, q0⟩]) rfl (by rw [hb]; rfl)]
      exact flush_one true x rest used
    · have e : rquiet vb_flush [x, y] = false := by
        unfold rquiet
        rw [show ([x, y] : List (List UInt8)).getLast? = some y from rfl, decide_eq_false (fun h => hy (Option.some.inj h)), Bool.and_false]
      have q1 : quietN 13 [x, y] 1 = false := by
        unfold quietN
        rw [show ([x, y] : List (List UInt8))[1]? = some y from rfl, decide_eq_false (fun h => hy (Option.some.inj h)), Bool.and_false]
      rw [e, if_neg (by simp), behind_error vb_flush [x, y] [1] (by rw [hb, hp, if_pos ⟨by simp, q0⟩]) (by simp) (by rw [hb]; exact q1)]
      rfl
  | x :: y :: z :: zs =>
    have q0 : quietN 13 (x :: y :: z :: zs) 0 = false := by
      unfold quietN
      simp
    have q1 : quietN 13 (x :: y :: z :: zs) 1 = false := by
      unfold quietN
      simp
    have e : rquiet vb_flush (x :: y :: z :: zs) = false := by
      unfold rquiet
      rw [hr, decide_eq_false (p := ((x :: y :: z :: zs).length : Int) = 0) (by simp; omega), decide_eq_false (p := vb_flush = vb_flush ∧ (x :: y :: z :: zs).length ≤ 2) (fun h => by have := h.2; simp at this)]
      simp
    rw [e, if_neg (by simp), behind_error vb_flush (x :: y :: z :: zs) [1] (by rw [hb, hp, if_pos ⟨by simp, q0⟩]) (by simp) (by rw [hb]; exact q1)]
    rfl
/-- The document's answer to a line is that of chapter 14. -/
theorem rline_is (v : List UInt8) (ws : List (List UInt8)) (rest : List UInt8) (used : Int) : rlineN v ws rest used = lineS (v :: ws) rest used := by
  unfold rlineN
  rcases verbs v with rfl | rfl | rfl | rfl | rfl | rfl | rfl | rfl | rfl | rfl | rfl | rfl | rfl | rfl | rfl | rfl | rfl | h
  · rw [if_pos (by decide)]; exact rget_is (by decide) (by decide) ws rest used
  · rw [if_pos (by decide)]; exact rget_is (by decide) (by decide) ws rest used
  · rw [if_pos (by decide)]; exact rgat_is (by decide) (by decide) ws rest used
  · rw [if_pos (by decide)]; exact rgat_is (by decide) (by decide) ws rest used
  · rw [if_neg (by decide), if_neg (by decide), if_pos (by decide)]
    exact line_stores (o := 3) (by decide) (by decide) (by decide) (by decide) (by decide) (fun x => rfl) (by decide) (by decide) rest used ws
  · rw [if_neg (by decide), if_neg (by decide), if_pos (by decide)]
    exact line_cas rest used ws
  · rw [if_neg (by decide), if_neg (by decide), if_pos (by decide)]
    exact line_stores (o := 4) (by decide) (by decide) (by decide) (by decide) (by decide) (fun x => rfl) (by decide) (by decide) rest used ws
  · rw [if_neg (by decide), if_neg (by decide), if_pos (by decide)]
    exact line_stores (o := 5) (by decide) (by decide) (by decide) (by decide) (by decide) (fun x => rfl) (by decide) (by decide) rest used ws
  · rw [if_neg (by decide), if_neg (by decide), if_pos (by decide)]
    exact line_stores (o := 6) (by decide) (by decide) (by decide) (by decide) (by decide) (fun x => rfl) (by decide) (by decide) rest used ws
  · rw [if_neg (by decide), if_neg (by decide), if_pos (by decide)]
    exact line_stores (o := 7) (by decide) (by decide) (by decide) (by decide) (by decide) (fun x => rfl) (by decide) (by decide) rest used ws
  · rw [if_neg (by decide), if_neg (by decide), if_neg (by decide), if_pos (by decide)]
    exact line_delete rest used ws
  · rw [if_neg (by decide), if_neg (by decide), if_neg (by decide), if_pos (by decide)]
    exact line_count (o := 10) (by decide) (by decide) (by decide) (by decide) (by decide) (by decide) (fun x => rfl) (by decide) (by decide) rest used ws
  · rw [if_neg (by decide), if_neg (by decide), if_neg (by decide), if_pos (by decide)]
    exact line_count (o := 11) (by decide) (by decide) (by decide) (by decide) (by decide) (by decide) (fun x => rfl) (by decide) (by decide) rest used ws
  · rw [if_neg (by decide), if_neg (by decide), if_neg (by decide), if_pos (by decide)]
    exact line_touch rest used ws
  · rw [if_neg (by decide), if_neg (by decide), if_neg (by decide), if_pos (by decide)]
    exact line_flush rest used ws
  · rw [if_neg (by decide), if_pos (by decide)]
    exact rbare_is (o := 15) (by decide) (by decide) (by decide) (by decide) ws rest used
  · rw [if_neg (by decide), if_pos (by decide)]
    exact rbare_is (o := 16) (by decide) (by decide) (by decide) (by decide) ws rest used
  · have h_get : ¬ v = vb_get := by simpa using h.get_
    have h_gets : ¬ v = vb_gets := by simpa using h.gets_
    have h_gat : ¬ v = vb_gat := by simpa using h.gat_
    have h_gats : ¬ v = vb_gats := by simpa using h.gats_
    have h_set : ¬ v = vb_set := by simpa using h.set_
    have h_cas : ¬ v = vb_cas := by simpa using h.cas_
    have h_add : ¬ v = vb_add := by simpa using h.add_
    have h_replace : ¬ v = vb_replace := by simpa using h.replace_
    have h_append : ¬ v = vb_append := by simpa using h.append_
    have h_prepend : ¬ v = vb_prepend := by simpa using h.prepend_
    have h_delete : ¬ v = vb_delete := by simpa using h.delete_
    have h_incr : ¬ v = vb_incr := by simpa using h.incr_
    have h_decr : ¬ v = vb_decr := by simpa using h.decr_
    have h_touch : ¬ v = vb_touch := by simpa using h.touch_
    have h_flush : ¬ v = vb_flush := by simpa using h.flush_
    have h_version : ¬ v = vb_version := by simpa using h.version_
    have h_quit : ¬ v = vb_quit := by simpa using h.quit_
    have hr : ropN v = -1 := by
      unfold ropN
      simp only [h_set, h_cas, h_add, h_replace, h_append, h_prepend, or_self, if_false]
    rw [if_neg (by simp only [h_get, h_gets, h_gat, h_gats, or_self, not_false_iff]), if_neg (by simp only [h_version, h_quit, or_self, not_false_iff]), if_neg (by rw [hr]; decide), if_neg (by simp only [h_delete, h_incr, h_decr, h_touch, h_flush, or_self, not_false_iff])]
    unfold lineS
    have e : readN (v :: ws) = (begun v, t_ERROR) := by
      show (if opN v = none then (begun v, t_ERROR) else behindN v ws) = _
      rw [if_pos (NoVerb.op h)]
    rw [e, if_neg err_ne]
    have e2 : skipN (begun v) = 0 := by
      unfold skipN
      rw [if_neg (fun e => absurd e.1 (by show ¬ false = true; decide))]
    rw [e2]
    rfl
end Go.Proofs.YtfcmnkhfmofioaaDoor
