/- The document's own text dialect, as values: its answer to a line of words is that of chapter 14. Conditions: none. -/
import Derived.Test.YtfcmnkhfmofioaaDoorRef14D
import Derived.Lib.ParseIntBCases
namespace Go.Proofs.YtfcmnkhfmofioaaDoor
set_option linter.unusedVariables false
set_option linter.unusedSimpArgs false

theorem dec_most {l : List UInt8} {n : Nat} (h : dec l = some n) : n ≤ 18446744073709551615 := by
  unfold dec at h
  split at h
  · cases h
  · split at h
    · rename_i u hu
      cases h
      have := Lib.parseUintB_le hu
      have : (2 : Nat) ^ 64 - 1 = 18446744073709551615 := by decide
      omega
    · cases h
/-- get, gets, gat and gats. -/
def rgetsN (v : List UInt8) (ws : List (List UInt8)) (used : Int) : Sv :=
  if v = vb_gat ∨ v = vb_gats then
    match ws with
    | [] => refuseS t_ERROR used
    | [_] => refuseS t_ERROR used
    | x :: k :: ks => if rkeysN (k :: ks) = false then refuseS t_bad used else match sgn x with
      | none => refuseS t_bad used
      | some z => ⟨reqD { begun v with exp := z, keys := k :: ks }, ⟨#[]⟩, used, 0, false, 0⟩
  else
    match ws with
    | [] => refuseS t_ERROR used
    | k :: ks => if rkeysN (k :: ks) = false then refuseS t_bad used else ⟨reqD { begun v with keys := k :: ks }, ⟨#[]⟩, used, 0, false, 0⟩
/-- delete, incr, decr, touch and flush_all. -/
def rothersN (v : List UInt8) (ws : List (List UInt8)) (q : Bool) (used : Int) : Sv :=
  if v = vb_flush then
    match ws with
    | [] => oneS used ⟨13, ⟨#[]⟩, [], 0, 0, 0, 0, 0, false, false⟩ (formO v q [])
    | [x] => (match sgn x with
      | none => refuseS t_bad used
      | some z => oneS used ⟨13, ⟨#[]⟩, [], 0, z, 0, 0, 0, false, false⟩ (formO v q []))
    | _ => refuseS t_ERROR used
  else if v = vb_delete then
    match ws with
    | [x] => if keyN x = false then refuseS t_bad used else oneS used ⟨8, mkB x, [], 0, 0, 0, 0, 0, false, false⟩ (formO v q [mkB x])
    | _ => refuseS t_ERROR used
  else if v = vb_touch then
    match ws with
    | [x, y] => if keyN x = false then refuseS t_bad used else (match sgn y with
      | none => refuseS t_bad used
      | some z => oneS used ⟨2, mkB x, [], 0, z, 0, 0, 0, false, false⟩ (formO v q [mkB x]))
    | _ => refuseS t_ERROR used
  else
    match ws with
    | [x, y] => if keyN x = false then refuseS t_bad used else (match dec y with
      | none => refuseS t_delta used
      | some u => oneS used ⟨if v = vb_decr then 11 else 10, mkB x, [], 0, 0, 0, (u : Int), 0, false, false⟩ (formO v q [mkB x]))
    | _ => refuseS t_ERROR used
def rskip (y : List UInt8) : Int := match dec y with | some u => if u ≤ 1073741824 then (u : Int) + 2 else 0 | none => 0
def rbadS (y : List UInt8) (used : Int) : Sv := { refuseS t_bad used with skip := rskip y }
/-- A line that stores, its words there. -/
def rstN (v : List UInt8) (q : Bool) (x f e y : List UInt8) (cas : Option Nat) (rest : List UInt8) (used : Int) : Sv :=
  if keyN x = false then rbadS y used
  else match dec f with
  | none => rbadS y used
  | some fu => if 4294967295 < fu then rbadS y used else
    match sgn e with
    | none => rbadS y used
    | some z => match dec y with
      | none => rbadS y used
      | some u => match cas with
        | none => rbadS y used
        | some cu =>
          if 1000 < u then { refuseS t_large used with skip := rskip y }
          else if (bodyN rest (u : Int)).2.2 = 3 then moreS
          else if (bodyN rest (u : Int)).2.2 = 2 then { refuseS t_chunk (used + (bodyN rest (u : Int)).2.1) with line := true }
          else oneS (used + (bodyN rest (u : Int)).2.1) ⟨ropN v, mkB x, (bodyN rest (u : Int)).1, (fu : Int), z, (cu : Int), 0, 0, false, false⟩ (formO v q [mkB x])
def rstoresN (v : List UInt8) (ws : List (List UInt8)) (q : Bool) (used : Int) (rest : List UInt8) : Sv :=
  if v = vb_cas then
    match ws with
    | [x, f, e, y, c] => rstN v q x f e y (dec c) rest used
    | _ => refuseS t_ERROR used
  else
    match ws with
    | [x, f, e, y] => rstN v q x f e y (some 0) rest used
    | _ => refuseS t_ERROR used
def rquiet (v : List UInt8) (ws : List (List UInt8)) : Bool := decide (ws ≠ []) && (decide ((ws.length : Int) = rmanyN v) || decide (v = vb_flush ∧ ws.length ≤ 2)) && decide (ws.getLast? = some t_noreply)
/-- The document's answer to a line whose first word is v. -/
def rlineN (v : List UInt8) (ws : List (List UInt8)) (rest : List UInt8) (used : Int) : Sv :=
  if v = vb_get ∨ v = vb_gets ∨ v = vb_gat ∨ v = vb_gats then rgetsN v ws used
  else if v = vb_version ∨ v = vb_quit then rbareS v ws used
  else if 0 ≤ ropN v then rstoresN v (if rquiet v ws then ws.dropLast else ws) (rquiet v ws) used rest
  else if v = vb_delete ∨ v = vb_incr ∨ v = vb_decr ∨ v = vb_touch ∨ v = vb_flush then rothersN v (if rquiet v ws then ws.dropLast else ws) (rquiet v ws) used
  else refuseS t_ERROR used
def lineD (r : Dv × List UInt8) (rest : List UInt8) (used : Int) : Sv := if r.2 = [] then finishN r.1 rest used else { refuseS r.2 used with skip := skipN r.1 }
theorem lineS_D (v : List UInt8) (ws : List (List UInt8)) (rest : List UInt8) (used : Int) (h : opN v ≠ none) : lineS (v :: ws) rest used = lineD (behindN v ws) rest used := by
  have e : readN (v :: ws) = behindN v ws := by
    show (if opN v = none then (begun v, t_ERROR) else behindN v ws) = _
    rw [if_neg h]
  unfold lineS
  rw [e]
  rfl
theorem err_ne : t_ERROR ≠ [] := by decide
theorem lineD_error {d : Dv} (h : d.sized = false) (rest : List UInt8) (used : Int) : lineD (d, t_ERROR) rest used = refuseS t_ERROR used := by
  unfold lineD
  rw [if_neg err_ne]
  unfold skipN
  rw [if_neg (fun e => by rw [h] at e; exact absurd e.1 (by decide))]
  rfl
theorem finish_bare {d : Dv} (h : d.sized = false) (rest : List UInt8) (used : Int) : finishN d rest used = ⟨reqD d, ⟨#[]⟩, used, 0, false, 0⟩ := by
  unfold finishN
  rw [if_pos h]
/-- The same steps, where the line is no kind of command's. -/
theorem behind_at (v : List UInt8) (ws : List (List UInt8)) (ks : List Nat) (q : Bool) (hk : partsN (begun v).op v ws = ks) (hq : quietN (begun v).op ws ks.length = q) : behindN v ws = if (if q then ws.take ks.length else ws).length = ks.length then largeN (runR ks (if q then ws.take ks.length else ws) { begun v with quiet := q } []) else ({ begun v with quiet := q }, t_ERROR) := by
  unfold behindN
  simp only []
  rw [hk, hq]
  cases q <;> rfl
theorem behind_error (v : List UInt8) (ws : List (List UInt8)) (ks : List Nat) (hk : partsN (begun v).op v ws = ks) (hl : ws.length ≠ ks.length) (hq : quietN (begun v).op ws ks.length = false) (rest : List UInt8) (used : Int) : lineD (behindN v ws) rest used = refuseS t_ERROR used := by
  rw [behind_at v ws ks false hk hq]
  simp only [Bool.false_eq_true, if_false]
  rw [if_neg hl]
  exact lineD_error rfl _ _
theorem behind_loud (v : List UInt8) (ws : List (List UInt8)) (ks : List Nat) (hk : partsN (begun v).op v ws = ks) (hl : ws.length = ks.length) : behindN v ws = largeN (runR ks ws { begun v with quiet := false } []) := by
  have hq : quietN (begun v).op ws ks.length = false := by
    unfold quietN
    rw [decide_eq_false (by omega : ¬ ws.length = ks.length + 1)]
    simp
  rw [behind_at v ws ks false hk hq]
  simp only [Bool.false_eq_true, if_false]
  rw [if_pos hl]
theorem behind_hush (v : List UInt8) (ws : List (List UInt8)) (ks : List Nat) (hk : partsN (begun v).op v (ws ++ [t_noreply]) = ks) (hl : ws.length = ks.length) (hm : mayQ (begun v).op = true) : behindN v (ws ++ [t_noreply]) = largeN (runR ks ws { begun v with quiet := true } []) := by
  have hq : quietN (begun v).op (ws ++ [t_noreply]) ks.length = true := by
    unfold quietN
    rw [hm, ← hl]
    simp
  rw [behind_at v _ ks true hk hq]
  simp only [if_true]
  rw [← hl, List.take_left, if_pos rfl]
end Go.Proofs.YtfcmnkhfmofioaaDoor
