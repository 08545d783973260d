/- The document's own text dialect, as values: each kind of line. Conditions: none. -/
import Derived.Test.YtfcmnkhfmofioaaDoorRef14P
namespace Go.Proofs.YtfcmnkhfmofioaaDoor
set_option linter.unusedVariables false
set_option linter.unusedSimpArgs false

theorem bad_ne : t_bad ≠ [] := by decide
theorem runR_keys : ∀ (ws : List (List UInt8)) (d : Dv) (f : List UInt8), runR (List.replicate ws.length 0) ws d f = ({ d with keys := d.keys ++ ws }, if f = [] then (if ws.all keyN = true ∧ (ws = [] ∨ d.keys.length + ws.length ≤ 16) then [] else t_bad) else f)
  | [], d, f => by
    simp [runR]
  | x :: ws, d, f => by
    rw [List.length_cons, List.replicate_succ]
    show runR (List.replicate ws.length 0) ws (readW 0 d x).1 (if f = [] then (readW 0 d x).2 else f) = _
    rw [runR_keys ws]
    have e1 : (readW 0 d x).1 = { d with keys := d.keys ++ [x] } := rfl
    have e2 : (readW 0 d x).2 = if keyN x = true ∧ d.keys.length + 1 ≤ 16 then [] else t_bad := rfl
    rw [e1, e2]
    simp only [List.append_assoc, List.singleton_append, List.length_append, List.length_singleton]
    congr 1
    by_cases hf : f = []
    · rw [if_pos hf, if_pos hf]
      by_cases hx : keyN x = true ∧ d.keys.length + 1 ≤ 16
      · rw [if_pos hx, if_pos rfl]
        by_cases hw : ws.all keyN = true ∧ (ws = [] ∨ d.keys.length + 1 + ws.length ≤ 16)
        · rw [if_pos hw, if_pos]
          refine ⟨by rw [List.all_cons, hx.1, hw.1]; rfl, .inr ?_⟩
          rcases hw.2 with h | h
          · subst h; exact hx.2
          · omega
        · rw [if_neg hw, if_neg]
          intro h
          apply hw
          have h1 := h.1
          rw [List.all_cons, hx.1, Bool.true_and] at h1
          refine ⟨h1, .inr ?_⟩
          rcases h.2 with h2 | h2
          · cases h2
          · omega
      · rw [if_neg hx, if_neg bad_ne, if_neg]
        intro h
        apply hx
        have h1 := h.1
        rw [List.all_cons, Bool.and_eq_true] at h1
        refine ⟨h1.1, ?_⟩
        rcases h.2 with h2 | h2
        · cases h2
        · omega
    · rw [if_neg hf, if_neg hf, if_neg hf]
theorem keys_fault (ws : List (List UInt8)) (h : ws ≠ []) (d : Dv) (hd : d.keys = []) : (if ws.all keyN = true ∧ (ws = [] ∨ d.keys.length + ws.length ≤ 16) then [] else t_bad) = if rkeysN ws = true then [] else t_bad := by
  rw [hd]
  unfold rkeysN
  by_cases h1 : ws.all keyN = true
  · by_cases h2 : ws.length ≤ 16
    · rw [if_pos ⟨h1, .inr (by simpa using h2)⟩, if_pos (by rw [h1, decide_eq_true h2]; rfl)]
    · rw [if_neg (fun e => by rcases e.2 with e | e; exact h e; exact h2 (by simpa using e)), if_neg (by rw [decide_eq_false h2]; simp)]
  · rw [if_neg (fun e => h1 e.1), if_neg (by simp [h1])]
theorem lineD_bad {d : Dv} (h : d.sized = false) {f : List UInt8} (hf : f ≠ []) (rest : List UInt8) (used : Int) : lineD (d, f) rest used = refuseS f used := by
  unfold lineD
  rw [if_neg hf]
  unfold skipN
  rw [if_neg (fun e => by rw [h] at e; exact absurd e.1 (by decide))]
  rfl
theorem lineD_ok {d : Dv} (h : d.sized = false) (rest : List UInt8) (used : Int) : lineD (d, []) rest used = ⟨reqD d, ⟨#[]⟩, used, 0, false, 0⟩ := by
  unfold lineD
  rw [if_pos rfl]
  exact finish_bare h _ _
theorem large_small {d : Dv} (h : d.size = 0) (f : List UInt8) : largeN (d, f) = (d, f) := by
  unfold largeN
  simp only []
  rw [if_neg (fun e => by rw [h] at e; exact absurd e.2 (by decide))]
/-- get and gets. -/
theorem rget_is {v : List UInt8} (hop : opN v = some 0) (hng : ¬ (v = vb_gat ∨ v = vb_gats)) (ws : List (List UInt8)) (rest : List UInt8) (used : Int) : rgetsN v ws used = lineS (v :: ws) rest used := by
  rw [lineS_D v ws rest used (by rw [hop]; simp)]
  have ho : (begun v).op = 0 := by show (opN v).getD 0 = 0; rw [hop]; rfl
  have hm : ∀ m, quietN (begun v).op ws m = false := fun m => by rw [ho]; rfl
  unfold rgetsN
  rw [if_neg hng]
  cases ws with
  | nil => exact (behind_error v [] [0] (by rw [ho]; rfl) (by decide) (hm _) rest used).symm
  | cons k ks =>
    simp only []
    have hp : partsN (begun v).op v (k :: ks) = List.replicate (k :: ks).length 0 := by
      rw [ho]
      show List.replicate (max (k :: ks).length 1) 0 = _
      rw [Nat.max_eq_left (by simp)]
    rw [behind_loud v (k :: ks) _ hp (by rw [List.length_replicate]), runR_keys, if_pos rfl, keys_fault _ (by simp) _ rfl, large_small rfl]
    cases h : rkeysN (k :: ks)
    · simp only [Bool.false_eq_true, if_false, if_true]
      rw [lineD_bad rfl bad_ne]
    · simp only [if_true, Bool.true_eq_false, if_false]
      rw [lineD_ok rfl]
      rfl
/-- gat and gats. -/
theorem rgat_is {v : List UInt8} (hop : opN v = some 1) (hg : v = vb_gat ∨ v = vb_gats) (ws : List (List UInt8)) (rest : List UInt8) (used : Int) : rgetsN v ws used = lineS (v :: ws) rest used := by
  rw [lineS_D v ws rest used (by rw [hop]; simp)]
  have ho : (begun v).op = 1 := by show (opN v).getD 0 = 1; rw [hop]; rfl
  have hm : ∀ m, quietN (begun v).op ws m = false := fun m => by rw [ho]; rfl
  unfold rgetsN
  rw [if_pos hg]
  match ws, hm with
  | [], hm => exact (behind_error v [] [1, 0] (by rw [ho]; rfl) (by decide) (hm _) rest used).symm
  | [x], hm => exact (behind_error v [x] [1, 0] (by rw [ho]; rfl) (by simp) (hm _) rest used).symm
  | x :: k :: ks, hm =>
    simp only []
    have hp : partsN (begun v).op v (x :: k :: ks) = 1 :: List.replicate (k :: ks).length 0 := by
      rw [ho]
      show 1 :: List.replicate (max ((x :: k :: ks).length - 1) 1) 0 = _
      rw [Nat.max_eq_left (by simp)]
      rfl
    rw [behind_loud v (x :: k :: ks) _ hp (by rw [List.length_cons, List.length_cons (a := 1), List.length_replicate])]
    show _ = lineD (largeN (runR (List.replicate (k :: ks).length 0) (k :: ks) (readW 1 { begun v with quiet := false } x).1 (if ([] : List UInt8) = [] then (readW 1 { begun v with quiet := false } x).2 else []))) rest used
    rw [if_pos rfl, runR_keys]
    have er : readW 1 { begun v with quiet := false } x = match sgn x with | some z => ({ begun v with exp := z, quiet := false }, []) | none => ({ begun v with quiet := false }, t_bad) := rfl
    rw [er]
    cases hz : sgn x with
    | none =>
      simp only []
      rw [if_neg bad_ne, large_small rfl, lineD_bad rfl bad_ne]
      cases h : rkeysN (k :: ks) <;> simp
    | some z =>
      simp only [if_true]
      rw [keys_fault (k :: ks) (by simp) { begun v with exp := z, quiet := false } rfl, large_small rfl]
      cases h : rkeysN (k :: ks)
      · simp only [Bool.false_eq_true, if_false, if_true]
        rw [lineD_bad rfl bad_ne]
      · simp only [if_true, Bool.true_eq_false, if_false]
        rw [lineD_ok rfl]
        rfl
/-- version and quit. -/
theorem rbare_is {v : List UInt8} {o : Int} (hop : opN v = some o) (ho : o = 15 ∨ o = 16) (hv : (if v = vb_quit then (16 : Int) else 15) = o) (hw : decide (v = vb_gets ∨ v = vb_gats) = false) (ws : List (List UInt8)) (rest : List UInt8) (used : Int) : rbareS v ws used = lineS (v :: ws) rest used := by
  rw [lineS_D v ws rest used (by rw [hop]; simp)]
  have hb : (begun v).op = o := by show (opN v).getD 0 = o; rw [hop]; rfl
  have hm : ∀ m, quietN (begun v).op ws m = false := fun m => by rw [hb]; rcases ho with rfl | rfl <;> rfl
  have hp : ∀ x, partsN (begun v).op v x = [] := fun x => by rw [hb]; rcases ho with rfl | rfl <;> rfl
  unfold rbareS
  cases ws with
  | nil =>
    rw [if_pos rfl, behind_loud v [] [] (hp _) rfl]
    show _ = lineD (largeN ({ begun v with quiet := false }, [])) rest used
    rw [large_small rfl, lineD_ok rfl, hv]
    unfold oneS reqD formD cmdD bareC bareF begun
    simp only [if_true, hop, hw, Option.getD_some, List.map_nil]
    rfl
  | cons x xs =>
    rw [if_neg (by simp)]
    exact (behind_error v (x :: xs) [] (hp _) (by simp) (hm _) rest used).symm
end Go.Proofs.YtfcmnkhfmofioaaDoor
