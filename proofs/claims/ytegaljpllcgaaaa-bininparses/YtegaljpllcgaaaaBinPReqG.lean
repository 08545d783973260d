/- Package binin's request, whole. Conditions: a head's numbers, a body as long as it says. -/
import Derived.Test.YtegaljpllcgaaaaBinPReq0
import Derived.Test.YtegaljpllcgaaaaG28Joined
import Derived.Test.YtegaljpllcgaaaaG29Joined
namespace Go.Proofs.Ytegaljpllcgaaaa
set_option linter.unusedVariables false
open Go.RowKit Go.Shelf

/-- What the table's rows are. -/
def TabN (r : R5) : Prop :=
  ((r.op = 3 ∨ r.op = 4 ∨ r.op = 5) ∧ r.ext = 8 ∧ r.key = true ∧ r.val = true) ∨ ((r.op = 10 ∨ r.op = 11) ∧ r.ext = 20 ∧ r.key = true ∧ r.val = false) ∨ ((r.op = 2 ∨ r.op = 1) ∧ r.ext = 4 ∧ r.key = true ∧ r.val = false) ∨
  (r.op = 13 ∧ r.ext = 0 ∧ r.key = false ∧ r.val = false) ∨ ((r.op = 0 ∨ r.op = 8) ∧ r.ext = 0 ∧ r.key = true ∧ r.val = false) ∨ ((r.op = 6 ∨ r.op = 7) ∧ r.ext = 0 ∧ r.key = true ∧ r.val = true) ∨ ((r.op = 14 ∨ r.op = 15 ∨ r.op = 16) ∧ r.ext = 0 ∧ r.key = false ∧ r.val = false)
theorem tab_row {d : Int} {q : Bool} (h0 : 0 ≤ d) (h : 0 ≤ opB d) : TabN (rowB d q) := by
  have hd : d = 0 ∨ d = 1 ∨ d = 2 ∨ d = 3 ∨ d = 4 ∨ d = 5 ∨ d = 6 ∨ d = 7 ∨ d = 8 ∨ d = 9 ∨ d = 10 ∨ d = 11 ∨ d = 12 ∨ d = 13 ∨ d = 14 ∨ d = 15 ∨ d = 28 ∨ d = 29 := by
    unfold opB at h
    split at h
    · omega
    · split at h
      · omega
      · split at h
        · omega
        · omega
  rcases hd with rfl | rfl | rfl | rfl | rfl | rfl | rfl | rfl | rfl | rfl | rfl | rfl | rfl | rfl | rfl | rfl | rfl | rfl
  all_goals first
    | (unfold TabN; cases q <;> decide)
    | (exfalso; revert h; decide)
theorem tab_of {c : Int} (h0 : 0 ≤ c) (h1 : c ≤ 255) (h : 0 ≤ (ofN c).op) : TabN (ofN c) := tab_row (loudN_bd h0 h1).1 h
def okxN (r : R5) (x : Nat) : Bool := if r.op = 13 then decide (x = 0) || decide (x = 4) else decide ((x : Int) = r.ext)
def okkN (r : R5) (k : Nat) : Bool := if r.key then decide (1 ≤ k) && decide (k ≤ 250) else decide (k = 0)
def okvN (r : R5) (v : Nat) : Bool := r.val || decide (v = 0)
def stN (r : R5) (x k v : Nat) : Int := if (okxN r x && okkN r k && okvN r v) = true then (if 1000 < v then 3 else 0) else 4
theorem status_stN {r : R5} {x k v l : Nat} (T : TabN r) (hl : l = x + k + v) : statusN r x k l = stN r x k v := by
  have hop : ¬ r.op < 0 := by
    unfold TabN at T
    omega
  unfold statusN stN
  rw [if_neg hop]
  have hx : okxN r x = true ↔ ¬ (if r.op = 13 then (x : Int) ≠ 0 ∧ (x : Int) ≠ 4 else (x : Int) ≠ r.ext) := by
    unfold okxN
    by_cases h13 : r.op = 13
    · rw [if_pos h13, if_pos h13, Bool.or_eq_true, decide_eq_true_eq, decide_eq_true_eq]
      omega
    · rw [if_neg h13, if_neg h13, decide_eq_true_eq]
      omega
  have hk : okkN r k = true ↔ ¬ (r.key = false ∧ (0 : Int) < k) ∧ ¬ (r.key = true ∧ ((k : Int) < 1 ∨ 250 < (k : Int))) := by
    unfold okkN
    cases r.key
    · rw [if_neg (by decide), decide_eq_true_eq]
      simp
    · rw [if_pos rfl, Bool.and_eq_true, decide_eq_true_eq, decide_eq_true_eq]
      simp
      omega
  have hv : okvN r v = true ↔ ¬ (r.val = false ∧ (x : Int) + k < l) := by
    unfold okvN
    cases r.val
    · rw [Bool.false_or, decide_eq_true_eq]
      simp
      omega
    · simp
  by_cases hall : (okxN r x && okkN r k && okvN r v) = true
  · rw [if_pos hall]
    simp only [Bool.and_eq_true] at hall
    obtain ⟨⟨a1, a2⟩, a3⟩ := hall
    have b1 := hx.1 a1
    have b2 := hk.1 a2
    have b3 := hv.1 a3
    rw [if_neg, if_neg b2.2]
    · have e : ((l : Int) - x - k) = (v : Int) := by omega
      rw [e]
      by_cases h : 1000 < v
      · rw [if_pos (by omega), if_pos h]
      · rw [if_neg (by omega), if_neg h]
    · rintro (h | h | h | h)
      · omega
      · exact b1 h
      · exact b3 h
      · exact b2.1 h
  · rw [if_neg hall]
    by_cases h1 : (l : Int) < x + k ∨ (if r.op = 13 then (x : Int) ≠ 0 ∧ (x : Int) ≠ 4 else (x : Int) ≠ r.ext) ∨ (r.val = false ∧ (x : Int) + k < l) ∨ (r.key = false ∧ (0 : Int) < k)
    · rw [if_pos h1]
    · rw [if_neg h1]
      rw [not_or, not_or, not_or] at h1
      obtain ⟨b0, b1, b2, b3⟩ := h1
      by_cases h2 : r.key = true ∧ ((k : Int) < 1 ∨ 250 < (k : Int))
      · rw [if_pos h2]
      · exfalso
        apply hall
        rw [hx.2 b1, hk.2 ⟨b3, h2⟩, hv.2 b2]
        rfl
theorem cmdB_8 {r : R5} {x : List UInt8} (he : r.ext = 8) : cmdB r x = ⟨r.op, ⟨#[]⟩, [], numB (x.take 4), numB ((x.drop 4).take 4), 0, 0, 0, false, false⟩ := by unfold cmdB; rw [if_pos he]
theorem cmdB_20 {r : R5} {x : List UInt8} (he : r.ext = 20) : cmdB r x = ⟨r.op, ⟨#[]⟩, [], 0, if numB ((x.drop 16).take 4) = 4294967295 then 0 else numB ((x.drop 16).take 4), 0, numB (x.take 8), numB ((x.drop 8).take 8), decide (numB ((x.drop 16).take 4) ≠ 4294967295), false⟩ := by unfold cmdB; rw [if_neg (by omega), if_pos he]
theorem cmdB_4 {r : R5} {x : List UInt8} (h8 : r.ext ≠ 8) (h20 : r.ext ≠ 20) : cmdB r x = ⟨r.op, ⟨#[]⟩, [], 0, if x.length = 4 then numB x else 0, 0, 0, 0, false, false⟩ := by
  unfold cmdB
  rw [if_neg h8, if_neg h20]
  by_cases h : x.length = 4
  · rw [if_pos h, if_pos h]
  · rw [if_neg h, if_neg h]
theorem RdE.to {W : World} {K : Nat} {ok : Bool} {cs cs' : Array Value} {e : Ending} {w' : World} (h : RdE W K ok cs e w') (hc : ok = true → cs = cs') : RdE W K ok cs' e w' := ⟨h.1, h.2.1, fun ho => hc ho ▸ h.2.2 ho⟩
/-- The request of a body. -/
def cmdP (r : R5) (bd : List UInt8) (x k v : Nat) (cas : Int) : Cv :=
  ⟨r.op, ⟨((bd.drop x).take k).toArray⟩, (bd.drop (x + k)).take v, (cmdB r (bd.take x)).fl, (cmdB r (bd.take x)).exp, cas, (cmdB r (bd.take x)).del, (cmdB r (bd.take x)).ini, (cmdB r (bd.take x)).makes, false⟩
def reqP (c o cas : Int) (bd : List UInt8) (x k v : Nat) : Qv := ⟨[cmdP (ofN c) bd x k v cas], formP c o ⟨((bd.drop x).take k).toArray⟩⟩
section
variable {w : World} {g off l : Nat} {bd : List UInt8}
theorem req_all {c o cas z fl exp del ini : Int} {mk : Bool} {x k v : Nat} {key : ByteArray} {val : List UInt8} {o2 o3 : Nat} {okx okk okv : Bool} (H : BodyH w g off l bd c z x k v key val o2 o3)
    (hx : ∀ (W : World) (K : Nat) (va : Option Addr) (vc : Nat), W.heap[K]? = some (.cells (cell0 z key va v vc 0 0 cas 0 0 false) 39 (0, 0)) → Bu W (some ⟨g, off, none⟩) x x (bd.take x) → g ≠ K → Calls Try.prog 35 #[.pointer (some ⟨K, 0, none⟩), .slice (some ⟨g, off, none⟩) x x] W fun e w' => RdE W K okx (cell0 z key va v vc fl exp cas del ini mk) e w')
    (hk : ∀ (W : World) (va : Option Addr) (vc : Nat), Calls Try.prog 36 #[.agg (cell0 z key va v vc fl exp cas del ini mk)] W fun e w' => e = .returned (.bool okk) ∧ W.grownBy w' none)
    (hw : ∀ (W : World) (va : Option Addr) (vc : Nat), Calls Try.prog 37 #[.agg (cell0 z key va v vc fl exp cas del ini mk)] W fun e w' => e = .returned (.bool okv) ∧ W.grownBy w' none)
    (hvl : val.length = v) (o0 : 0 ≤ o) (o1 : o < 4294967296) (c0 : 0 ≤ c) (c1 : c ≤ 255) :
    Calls Try.prog 20 #[.agg (hdC c (k : Int) (x : Int) o cas), .slice (some ⟨g, off, none⟩) l l] w fun e w' =>
      ReqE (if (okx && okk && okv) = true ∧ ¬ 1000 < v then ⟨[⟨z, key, val, fl, exp, cas, del, ini, mk, false⟩], formP c o key⟩ else noQ) (if (okx && okk && okv) = true then (if 1000 < v then 3 else 0) else 4) w e w' := by
  cases okx with
  | false =>
    rw [if_neg (by simp), if_neg (by simp)]
    exact req_A H hx
  | true =>
    cases okk with
    | false =>
      rw [if_neg (by simp), if_neg (by simp)]
      exact req_B H hx hk
    | true =>
      cases okv with
      | false =>
        rw [if_neg (by simp), if_neg (by simp)]
        exact req_C H hx hk hw
      | true =>
        by_cases hv : 1000 < v
        · rw [if_neg (fun h => h.2 hv), if_pos (show (true && true && true) = true from rfl), if_pos hv]
          exact req_D H hx hk hw hv
        · rw [if_pos ⟨rfl, hv⟩, if_pos (show (true && true && true) = true from rfl), if_neg hv]
          exact req_E H hx hk hw (by omega) hvl o0 o1 c0 c1
theorem key_len {bd : List UInt8} {x k l : Nat} (h : x + k ≤ l) (hb : bd.length = l) : ((bd.drop x).take k).length = k := by rw [List.length_take, List.length_drop]; omega
theorem keyed_k {s : List UInt8} {k : Nat} (h : s.length = k) : keyedN (ByteArray.mk s.toArray).data.toList = (decide (1 ≤ k) && decide (k ≤ 250)) := by
  unfold keyedN
  show (decide (1 ≤ s.length) && decide (s.length ≤ 250)) = _
  rw [h]
theorem empty_k {s : List UInt8} {k : Nat} (h : s.length = k) : (ByteArray.mk s.toArray).data.toList.isEmpty = decide (k = 0) := by
  subst h
  cases s with
  | nil => rfl
  | cons a s => simp
theorem nil_v (v : Nat) : ((v : Int) == 0) = decide (v = 0) := by
  by_cases h : v = 0
  · subst h; rfl
  · rw [decide_eq_false h, beq_eq_false_iff_ne]; omega
set_option maxHeartbeats 2000000 in
theorem req_op3 {c o cas : Int} {r : R5} {x k v o2 o3 : Nat} (hr : r = ofN c) (hz : r.op = 3) (he : r.ext = 8) (hk : r.key = true) (hv : r.val = true) (hb : bd.length = l)
    (H : BodyH w g off l bd c 3 x k v ⟨((bd.drop x).take k).toArray⟩ ((bd.drop (x + k)).take v) o2 o3) (o0 : 0 ≤ o) (o1 : o < 4294967296) (c0 : 0 ≤ c) (c1 : c ≤ 255) :
    Calls Try.prog 20 #[.agg (hdC c (k : Int) (x : Int) o cas), .slice (some ⟨g, off, none⟩) l l] w fun e w' => ReqE (if stN (ofN c) x k v = 0 then reqP c o cas bd x k v else noQ) (stN (ofN c) x k v) w e w' := by
  have ll := H.len
  have lm := H.lm
  have hlen : (bd.take x).length = x := by rw [List.length_take]; omega
  have hkl := key_len (bd := bd) (x := x) (k := k) (l := l) (by omega) hb
  have hvl : ((bd.drop (x + k)).take v).length = v := by rw [List.length_take, List.length_drop]; omega
  have ox : okxN r x = decide (x = 8) := by
    unfold okxN
    rw [if_neg (by rw [hz]; decide), he]
    exact decide_eq_decide.2 (by omega)
  have ok : okkN r k = (decide (1 ≤ k) && decide (k ≤ 250)) := by unfold okkN; rw [hk]; rfl
  have ov : okvN r v = true := by unfold okvN; rw [hv]; rfl
  have HA := req_all (z := 3) (fl := (cmdB r (bd.take x)).fl) (exp := (cmdB r (bd.take x)).exp) (del := (cmdB r (bd.take x)).del) (ini := (cmdB r (bd.take x)).ini) (mk := (cmdB r (bd.take x)).makes) (okx := okxN r x) (okk := okkN r k) (okv := okvN r v) (cas := cas) (o := o) H
    (fun W K va vc h1 h2 h3 => by
      rw [ox]
      refine (ex_3 h1 h2 (by omega) h3).mono fun e w' h => h.to fun hok => ?_
      rw [cmdB_8 he])
    (fun W va vc => by
      rw [ok, ← keyed_k hkl]
      exact kf_x (z := 3) (by decide) W)
    (fun W va vc => by
      rw [ov]
      exact vf_3 (z := 0) W)
    hvl o0 o1 c0 c1
  rw [← hr]
  refine HA.mono fun e w' h => ?_
  unfold stN reqP cmdP
  rw [← hr, hz]
  by_cases h1 : (okxN r x && okkN r k && okvN r v) = true
  · by_cases h2 : 1000 < v
    · rw [if_neg (fun h => h.2 h2), if_pos h1, if_pos h2] at h
      rw [if_pos h1, if_pos h2, if_neg (by decide)]
      exact h
    · rw [if_pos ⟨h1, h2⟩, if_pos h1, if_neg h2] at h
      rw [if_pos h1, if_neg h2, if_pos rfl]
      exact h
  · rw [if_neg (fun h => h1 h.1), if_neg h1] at h
    rw [if_neg h1, if_neg (by decide)]
    exact h
set_option maxHeartbeats 2000000 in
theorem req_op4 {c o cas : Int} {r : R5} {x k v o2 o3 : Nat} (hr : r = ofN c) (hz : r.op = 4) (he : r.ext = 8) (hk : r.key = true) (hv : r.val = true) (hb : bd.length = l)
    (H : BodyH w g off l bd c 4 x k v ⟨((bd.drop x).take k).toArray⟩ ((bd.drop (x + k)).take v) o2 o3) (o0 : 0 ≤ o) (o1 : o < 4294967296) (c0 : 0 ≤ c) (c1 : c ≤ 255) :
    Calls Try.prog 20 #[.agg (hdC c (k : Int) (x : Int) o cas), .slice (some ⟨g, off, none⟩) l l] w fun e w' => ReqE (if stN (ofN c) x k v = 0 then reqP c o cas bd x k v else noQ) (stN (ofN c) x k v) w e w' := by
  have ll := H.len
  have lm := H.lm
  have hlen : (bd.take x).length = x := by rw [List.length_take]; omega
  have hkl := key_len (bd := bd) (x := x) (k := k) (l := l) (by omega) hb
  have hvl : ((bd.drop (x + k)).take v).length = v := by rw [List.length_take, List.length_drop]; omega
  have ox : okxN r x = decide (x = 8) := by
    unfold okxN
    rw [if_neg (by rw [hz]; decide), he]
    exact decide_eq_decide.2 (by omega)
  have ok : okkN r k = (decide (1 ≤ k) && decide (k ≤ 250)) := by unfold okkN; rw [hk]; rfl
  have ov : okvN r v = true := by unfold okvN; rw [hv]; rfl
  have HA := req_all (z := 4) (fl := (cmdB r (bd.take x)).fl) (exp := (cmdB r (bd.take x)).exp) (del := (cmdB r (bd.take x)).del) (ini := (cmdB r (bd.take x)).ini) (mk := (cmdB r (bd.take x)).makes) (okx := okxN r x) (okk := okkN r k) (okv := okvN r v) (cas := cas) (o := o) H
    (fun W K va vc h1 h2 h3 => by
      rw [ox]
      refine (ex_4 h1 h2 (by omega) h3).mono fun e w' h => h.to fun hok => ?_
      rw [cmdB_8 he])
    (fun W va vc => by
      rw [ok, ← keyed_k hkl]
      exact kf_x (z := 4) (by decide) W)
    (fun W va vc => by
      rw [ov]
      exact vf_4 (z := 0) W)
    hvl o0 o1 c0 c1
  rw [← hr]
  refine HA.mono fun e w' h => ?_
  unfold stN reqP cmdP
  rw [← hr, hz]
  by_cases h1 : (okxN r x && okkN r k && okvN r v) = true
  · by_cases h2 : 1000 < v
    · rw [if_neg (fun h => h.2 h2), if_pos h1, if_pos h2] at h
      rw [if_pos h1, if_pos h2, if_neg (by decide)]
      exact h
    · rw [if_pos ⟨h1, h2⟩, if_pos h1, if_neg h2] at h
      rw [if_pos h1, if_neg h2, if_pos rfl]
      exact h
  · rw [if_neg (fun h => h1 h.1), if_neg h1] at h
    rw [if_neg h1, if_neg (by decide)]
    exact h
set_option maxHeartbeats 2000000 in
theorem req_op5 {c o cas : Int} {r : R5} {x k v o2 o3 : Nat} (hr : r = ofN c) (hz : r.op = 5) (he : r.ext = 8) (hk : r.key = true) (hv : r.val = true) (hb : bd.length = l)
    (H : BodyH w g off l bd c 5 x k v ⟨((bd.drop x).take k).toArray⟩ ((bd.drop (x + k)).take v) o2 o3) (o0 : 0 ≤ o) (o1 : o < 4294967296) (c0 : 0 ≤ c) (c1 : c ≤ 255) :
    Calls Try.prog 20 #[.agg (hdC c (k : Int) (x : Int) o cas), .slice (some ⟨g, off, none⟩) l l] w fun e w' => ReqE (if stN (ofN c) x k v = 0 then reqP c o cas bd x k v else noQ) (stN (ofN c) x k v) w e w' := by
  have ll := H.len
  have lm := H.lm
  have hlen : (bd.take x).length = x := by rw [List.length_take]; omega
  have hkl := key_len (bd := bd) (x := x) (k := k) (l := l) (by omega) hb
  have hvl : ((bd.drop (x + k)).take v).length = v := by rw [List.length_take, List.length_drop]; omega
  have ox : okxN r x = decide (x = 8) := by
    unfold okxN
    rw [if_neg (by rw [hz]; decide), he]
    exact decide_eq_decide.2 (by omega)
  have ok : okkN r k = (decide (1 ≤ k) && decide (k ≤ 250)) := by unfold okkN; rw [hk]; rfl
  have ov : okvN r v = true := by unfold okvN; rw [hv]; rfl
  have HA := req_all (z := 5) (fl := (cmdB r (bd.take x)).fl) (exp := (cmdB r (bd.take x)).exp) (del := (cmdB r (bd.take x)).del) (ini := (cmdB r (bd.take x)).ini) (mk := (cmdB r (bd.take x)).makes) (okx := okxN r x) (okk := okkN r k) (okv := okvN r v) (cas := cas) (o := o) H
    (fun W K va vc h1 h2 h3 => by
      rw [ox]
      refine (ex_5 h1 h2 (by omega) h3).mono fun e w' h => h.to fun hok => ?_
      rw [cmdB_8 he])
    (fun W va vc => by
      rw [ok, ← keyed_k hkl]
      exact kf_x (z := 5) (by decide) W)
    (fun W va vc => by
      rw [ov]
      exact vf_5 (z := 0) W)
    hvl o0 o1 c0 c1
  rw [← hr]
  refine HA.mono fun e w' h => ?_
  unfold stN reqP cmdP
  rw [← hr, hz]
  by_cases h1 : (okxN r x && okkN r k && okvN r v) = true
  · by_cases h2 : 1000 < v
    · rw [if_neg (fun h => h.2 h2), if_pos h1, if_pos h2] at h
      rw [if_pos h1, if_pos h2, if_neg (by decide)]
      exact h
    · rw [if_pos ⟨h1, h2⟩, if_pos h1, if_neg h2] at h
      rw [if_pos h1, if_neg h2, if_pos rfl]
      exact h
  · rw [if_neg (fun h => h1 h.1), if_neg h1] at h
    rw [if_neg h1, if_neg (by decide)]
    exact h
set_option maxHeartbeats 2000000 in
theorem req_op10 {c o cas : Int} {r : R5} {x k v o2 o3 : Nat} (hr : r = ofN c) (hz : r.op = 10) (he : r.ext = 20) (hk : r.key = true) (hv : r.val = false) (hb : bd.length = l)
    (H : BodyH w g off l bd c 10 x k v ⟨((bd.drop x).take k).toArray⟩ ((bd.drop (x + k)).take v) o2 o3) (o0 : 0 ≤ o) (o1 : o < 4294967296) (c0 : 0 ≤ c) (c1 : c ≤ 255) :
    Calls Try.prog 20 #[.agg (hdC c (k : Int) (x : Int) o cas), .slice (some ⟨g, off, none⟩) l l] w fun e w' => ReqE (if stN (ofN c) x k v = 0 then reqP c o cas bd x k v else noQ) (stN (ofN c) x k v) w e w' := by
  have ll := H.len
  have lm := H.lm
  have hlen : (bd.take x).length = x := by rw [List.length_take]; omega
  have hkl := key_len (bd := bd) (x := x) (k := k) (l := l) (by omega) hb
  have hvl : ((bd.drop (x + k)).take v).length = v := by rw [List.length_take, List.length_drop]; omega
  have ox : okxN r x = decide (x = 20) := by
    unfold okxN
    rw [if_neg (by rw [hz]; decide), he]
    exact decide_eq_decide.2 (by omega)
  have ok : okkN r k = (decide (1 ≤ k) && decide (k ≤ 250)) := by unfold okkN; rw [hk]; rfl
  have ov : okvN r v = decide (v = 0) := by unfold okvN; rw [hv]; rfl
  have HA := req_all (z := 10) (fl := (cmdB r (bd.take x)).fl) (exp := (cmdB r (bd.take x)).exp) (del := (cmdB r (bd.take x)).del) (ini := (cmdB r (bd.take x)).ini) (mk := (cmdB r (bd.take x)).makes) (okx := okxN r x) (okk := okkN r k) (okv := okvN r v) (cas := cas) (o := o) H
    (fun W K va vc h1 h2 h3 => by
      rw [ox]
      refine (ex_10 h1 h2 (by omega) h3).mono fun e w' h => h.to fun hok => ?_
      rw [cmdB_20 he])
    (fun W va vc => by
      rw [ok, ← keyed_k hkl]
      exact kf_x (z := 10) (by decide) W)
    (fun W va vc => by
      rw [ov, ← nil_v]
      exact vf_x (z := 10) (by decide) W)
    hvl o0 o1 c0 c1
  rw [← hr]
  refine HA.mono fun e w' h => ?_
  unfold stN reqP cmdP
  rw [← hr, hz]
  by_cases h1 : (okxN r x && okkN r k && okvN r v) = true
  · by_cases h2 : 1000 < v
    · rw [if_neg (fun h => h.2 h2), if_pos h1, if_pos h2] at h
      rw [if_pos h1, if_pos h2, if_neg (by decide)]
      exact h
    · rw [if_pos ⟨h1, h2⟩, if_pos h1, if_neg h2] at h
      rw [if_pos h1, if_neg h2, if_pos rfl]
      exact h
  · rw [if_neg (fun h => h1 h.1), if_neg h1] at h
    rw [if_neg h1, if_neg (by decide)]
    exact h
set_option maxHeartbeats 2000000 in
theorem req_op11 {c o cas : Int} {r : R5} {x k v o2 o3 : Nat} (hr : r = ofN c) (hz : r.op = 11) (he : r.ext = 20) (hk : r.key = true) (hv : r.val = false) (hb : bd.length = l)
    (H : BodyH w g off l bd c 11 x k v ⟨((bd.drop x).take k).toArray⟩ ((bd.drop (x + k)).take v) o2 o3) (o0 : 0 ≤ o) (o1 : o < 4294967296) (c0 : 0 ≤ c) (c1 : c ≤ 255) :
    Calls Try.prog 20 #[.agg (hdC c (k : Int) (x : Int) o cas), .slice (some ⟨g, off, none⟩) l l] w fun e w' => ReqE (if stN (ofN c) x k v = 0 then reqP c o cas bd x k v else noQ) (stN (ofN c) x k v) w e w' := by
  have ll := H.len
  have lm := H.lm
  have hlen : (bd.take x).length = x := by rw [List.length_take]; omega
  have hkl := key_len (bd := bd) (x := x) (k := k) (l := l) (by omega) hb
  have hvl : ((bd.drop (x + k)).take v).length = v := by rw [List.length_take, List.length_drop]; omega
  have ox : okxN r x = decide (x = 20) := by
    unfold okxN
    rw [if_neg (by rw [hz]; decide), he]
    exact decide_eq_decide.2 (by omega)
  have ok : okkN r k = (decide (1 ≤ k) && decide (k ≤ 250)) := by unfold okkN; rw [hk]; rfl
  have ov : okvN r v = decide (v = 0) := by unfold okvN; rw [hv]; rfl
  have HA := req_all (z := 11) (fl := (cmdB r (bd.take x)).fl) (exp := (cmdB r (bd.take x)).exp) (del := (cmdB r (bd.take x)).del) (ini := (cmdB r (bd.take x)).ini) (mk := (cmdB r (bd.take x)).makes) (okx := okxN r x) (okk := okkN r k) (okv := okvN r v) (cas := cas) (o := o) H
    (fun W K va vc h1 h2 h3 => by
      rw [ox]
      refine (ex_11 h1 h2 (by omega) h3).mono fun e w' h => h.to fun hok => ?_
      rw [cmdB_20 he])
    (fun W va vc => by
      rw [ok, ← keyed_k hkl]
      exact kf_x (z := 11) (by decide) W)
    (fun W va vc => by
      rw [ov, ← nil_v]
      exact vf_x (z := 11) (by decide) W)
    hvl o0 o1 c0 c1
  rw [← hr]
  refine HA.mono fun e w' h => ?_
  unfold stN reqP cmdP
  rw [← hr, hz]
  by_cases h1 : (okxN r x && okkN r k && okvN r v) = true
  · by_cases h2 : 1000 < v
    · rw [if_neg (fun h => h.2 h2), if_pos h1, if_pos h2] at h
      rw [if_pos h1, if_pos h2, if_neg (by decide)]
      exact h
    · rw [if_pos ⟨h1, h2⟩, if_pos h1, if_neg h2] at h
      rw [if_pos h1, if_neg h2, if_pos rfl]
      exact h
  · rw [if_neg (fun h => h1 h.1), if_neg h1] at h
    rw [if_neg h1, if_neg (by decide)]
    exact h
set_option maxHeartbeats 2000000 in
theorem req_op2 {c o cas : Int} {r : R5} {x k v o2 o3 : Nat} (hr : r = ofN c) (hz : r.op = 2) (he : r.ext = 4) (hk : r.key = true) (hv : r.val = false) (hb : bd.length = l)
    (H : BodyH w g off l bd c 2 x k v ⟨((bd.drop x).take k).toArray⟩ ((bd.drop (x + k)).take v) o2 o3) (o0 : 0 ≤ o) (o1 : o < 4294967296) (c0 : 0 ≤ c) (c1 : c ≤ 255) :
    Calls Try.prog 20 #[.agg (hdC c (k : Int) (x : Int) o cas), .slice (some ⟨g, off, none⟩) l l] w fun e w' => ReqE (if stN (ofN c) x k v = 0 then reqP c o cas bd x k v else noQ) (stN (ofN c) x k v) w e w' := by
  have ll := H.len
  have lm := H.lm
  have hlen : (bd.take x).length = x := by rw [List.length_take]; omega
  have hkl := key_len (bd := bd) (x := x) (k := k) (l := l) (by omega) hb
  have hvl : ((bd.drop (x + k)).take v).length = v := by rw [List.length_take, List.length_drop]; omega
  have ox : okxN r x = decide (x = 4) := by
    unfold okxN
    rw [if_neg (by rw [hz]; decide), he]
    exact decide_eq_decide.2 (by omega)
  have ok : okkN r k = (decide (1 ≤ k) && decide (k ≤ 250)) := by unfold okkN; rw [hk]; rfl
  have ov : okvN r v = decide (v = 0) := by unfold okvN; rw [hv]; rfl
  have HA := req_all (z := 2) (fl := (cmdB r (bd.take x)).fl) (exp := (cmdB r (bd.take x)).exp) (del := (cmdB r (bd.take x)).del) (ini := (cmdB r (bd.take x)).ini) (mk := (cmdB r (bd.take x)).makes) (okx := okxN r x) (okk := okkN r k) (okv := okvN r v) (cas := cas) (o := o) H
    (fun W K va vc h1 h2 h3 => by
      rw [ox]
      refine (ex_2 h1 h2 (by omega) h3).mono fun e w' h => h.to fun hok => ?_
      have h4 : x = 4 := of_decide_eq_true hok
      rw [cmdB_4 (by omega) (by omega), hlen, if_pos h4])
    (fun W va vc => by
      rw [ok, ← keyed_k hkl]
      exact kf_x (z := 2) (by decide) W)
    (fun W va vc => by
      rw [ov, ← nil_v]
      exact vf_x (z := 2) (by decide) W)
    hvl o0 o1 c0 c1
  rw [← hr]
  refine HA.mono fun e w' h => ?_
  unfold stN reqP cmdP
  rw [← hr, hz]
  by_cases h1 : (okxN r x && okkN r k && okvN r v) = true
  · by_cases h2 : 1000 < v
    · rw [if_neg (fun h => h.2 h2), if_pos h1, if_pos h2] at h
      rw [if_pos h1, if_pos h2, if_neg (by decide)]
      exact h
    · rw [if_pos ⟨h1, h2⟩, if_pos h1, if_neg h2] at h
      rw [if_pos h1, if_neg h2, if_pos rfl]
      exact h
  · rw [if_neg (fun h => h1 h.1), if_neg h1] at h
    rw [if_neg h1, if_neg (by decide)]
    exact h
set_option maxHeartbeats 2000000 in
theorem req_op1 {c o cas : Int} {r : R5} {x k v o2 o3 : Nat} (hr : r = ofN c) (hz : r.op = 1) (he : r.ext = 4) (hk : r.key = true) (hv : r.val = false) (hb : bd.length = l)
    (H : BodyH w g off l bd c 1 x k v ⟨((bd.drop x).take k).toArray⟩ ((bd.drop (x + k)).take v) o2 o3) (o0 : 0 ≤ o) (o1 : o < 4294967296) (c0 : 0 ≤ c) (c1 : c ≤ 255) :
    Calls Try.prog 20 #[.agg (hdC c (k : Int) (x : Int) o cas), .slice (some ⟨g, off, none⟩) l l] w fun e w' => ReqE (if stN (ofN c) x k v = 0 then reqP c o cas bd x k v else noQ) (stN (ofN c) x k v) w e w' := by
  have ll := H.len
  have lm := H.lm
  have hlen : (bd.take x).length = x := by rw [List.length_take]; omega
  have hkl := key_len (bd := bd) (x := x) (k := k) (l := l) (by omega) hb
  have hvl : ((bd.drop (x + k)).take v).length = v := by rw [List.length_take, List.length_drop]; omega
  have ox : okxN r x = decide (x = 4) := by
    unfold okxN
    rw [if_neg (by rw [hz]; decide), he]
    exact decide_eq_decide.2 (by omega)
  have ok : okkN r k = (decide (1 ≤ k) && decide (k ≤ 250)) := by unfold okkN; rw [hk]; rfl
  have ov : okvN r v = decide (v = 0) := by unfold okvN; rw [hv]; rfl
  have HA := req_all (z := 1) (fl := (cmdB r (bd.take x)).fl) (exp := (cmdB r (bd.take x)).exp) (del := (cmdB r (bd.take x)).del) (ini := (cmdB r (bd.take x)).ini) (mk := (cmdB r (bd.take x)).makes) (okx := okxN r x) (okk := okkN r k) (okv := okvN r v) (cas := cas) (o := o) H
    (fun W K va vc h1 h2 h3 => by
      rw [ox]
      refine (ex_1 h1 h2 (by omega) h3).mono fun e w' h => h.to fun hok => ?_
      have h4 : x = 4 := of_decide_eq_true hok
      rw [cmdB_4 (by omega) (by omega), hlen, if_pos h4])
    (fun W va vc => by
      rw [ok, ← keyed_k hkl]
      exact kf_x (z := 1) (by decide) W)
    (fun W va vc => by
      rw [ov, ← nil_v]
      exact vf_x (z := 1) (by decide) W)
    hvl o0 o1 c0 c1
  rw [← hr]
  refine HA.mono fun e w' h => ?_
  unfold stN reqP cmdP
  rw [← hr, hz]
  by_cases h1 : (okxN r x && okkN r k && okvN r v) = true
  · by_cases h2 : 1000 < v
    · rw [if_neg (fun h => h.2 h2), if_pos h1, if_pos h2] at h
      rw [if_pos h1, if_pos h2, if_neg (by decide)]
      exact h
    · rw [if_pos ⟨h1, h2⟩, if_pos h1, if_neg h2] at h
      rw [if_pos h1, if_neg h2, if_pos rfl]
      exact h
  · rw [if_neg (fun h => h1 h.1), if_neg h1] at h
    rw [if_neg h1, if_neg (by decide)]
    exact h
set_option maxHeartbeats 2000000 in
theorem req_op13 {c o cas : Int} {r : R5} {x k v o2 o3 : Nat} (hr : r = ofN c) (hz : r.op = 13) (he : r.ext = 0) (hk : r.key = false) (hv : r.val = false) (hb : bd.length = l)
    (H : BodyH w g off l bd c 13 x k v ⟨((bd.drop x).take k).toArray⟩ ((bd.drop (x + k)).take v) o2 o3) (o0 : 0 ≤ o) (o1 : o < 4294967296) (c0 : 0 ≤ c) (c1 : c ≤ 255) :
    Calls Try.prog 20 #[.agg (hdC c (k : Int) (x : Int) o cas), .slice (some ⟨g, off, none⟩) l l] w fun e w' => ReqE (if stN (ofN c) x k v = 0 then reqP c o cas bd x k v else noQ) (stN (ofN c) x k v) w e w' := by
  have ll := H.len
  have lm := H.lm
  have hlen : (bd.take x).length = x := by rw [List.length_take]; omega
  have hkl := key_len (bd := bd) (x := x) (k := k) (l := l) (by omega) hb
  have hvl : ((bd.drop (x + k)).take v).length = v := by rw [List.length_take, List.length_drop]; omega
  have ox : okxN r x = (decide (x = 0) || decide (x = 4)) := by
    unfold okxN
    rw [if_pos hz]
  have ok : okkN r k = decide (k = 0) := by unfold okkN; rw [hk]; rfl
  have ov : okvN r v = decide (v = 0) := by unfold okvN; rw [hv]; rfl
  have HA := req_all (z := 13) (fl := (cmdB r (bd.take x)).fl) (exp := (cmdB r (bd.take x)).exp) (del := (cmdB r (bd.take x)).del) (ini := (cmdB r (bd.take x)).ini) (mk := (cmdB r (bd.take x)).makes) (okx := okxN r x) (okk := okkN r k) (okv := okvN r v) (cas := cas) (o := o) H
    (fun W K va vc h1 h2 h3 => by
      rw [ox]
      refine (ex_13 h1 h2 (by omega) h3).mono fun e w' h => h.to fun hok => ?_
      rw [cmdB_4 (by omega) (by omega), hlen])
    (fun W va vc => by
      rw [ok, ← empty_k hkl]
      exact kf_13 (z := 0) W)
    (fun W va vc => by
      rw [ov, ← nil_v]
      exact vf_x (z := 13) (by decide) W)
    hvl o0 o1 c0 c1
  rw [← hr]
  refine HA.mono fun e w' h => ?_
  unfold stN reqP cmdP
  rw [← hr, hz]
  by_cases h1 : (okxN r x && okkN r k && okvN r v) = true
  · by_cases h2 : 1000 < v
    · rw [if_neg (fun h => h.2 h2), if_pos h1, if_pos h2] at h
      rw [if_pos h1, if_pos h2, if_neg (by decide)]
      exact h
    · rw [if_pos ⟨h1, h2⟩, if_pos h1, if_neg h2] at h
      rw [if_pos h1, if_neg h2, if_pos rfl]
      exact h
  · rw [if_neg (fun h => h1 h.1), if_neg h1] at h
    rw [if_neg h1, if_neg (by decide)]
    exact h
set_option maxHeartbeats 2000000 in
theorem req_op0 {c o cas : Int} {r : R5} {x k v o2 o3 : Nat} (hr : r = ofN c) (hz : r.op = 0) (he : r.ext = 0) (hk : r.key = true) (hv : r.val = false) (hb : bd.length = l)
    (H : BodyH w g off l bd c 0 x k v ⟨((bd.drop x).take k).toArray⟩ ((bd.drop (x + k)).take v) o2 o3) (o0 : 0 ≤ o) (o1 : o < 4294967296) (c0 : 0 ≤ c) (c1 : c ≤ 255) :
    Calls Try.prog 20 #[.agg (hdC c (k : Int) (x : Int) o cas), .slice (some ⟨g, off, none⟩) l l] w fun e w' => ReqE (if stN (ofN c) x k v = 0 then reqP c o cas bd x k v else noQ) (stN (ofN c) x k v) w e w' := by
  have ll := H.len
  have lm := H.lm
  have hlen : (bd.take x).length = x := by rw [List.length_take]; omega
  have hkl := key_len (bd := bd) (x := x) (k := k) (l := l) (by omega) hb
  have hvl : ((bd.drop (x + k)).take v).length = v := by rw [List.length_take, List.length_drop]; omega
  have ox : okxN r x = decide (x = 0) := by
    unfold okxN
    rw [if_neg (by rw [hz]; decide), he]
    exact decide_eq_decide.2 (by omega)
  have ok : okkN r k = (decide (1 ≤ k) && decide (k ≤ 250)) := by unfold okkN; rw [hk]; rfl
  have ov : okvN r v = decide (v = 0) := by unfold okvN; rw [hv]; rfl
  have HA := req_all (z := 0) (fl := (cmdB r (bd.take x)).fl) (exp := (cmdB r (bd.take x)).exp) (del := (cmdB r (bd.take x)).del) (ini := (cmdB r (bd.take x)).ini) (mk := (cmdB r (bd.take x)).makes) (okx := okxN r x) (okk := okkN r k) (okv := okvN r v) (cas := cas) (o := o) H
    (fun W K va vc h1 h2 h3 => by
      rw [ox]
      refine (ex_0 h1 h2 (by omega) h3).mono fun e w' h => h.to fun hok => ?_
      have h4 : x = 0 := of_decide_eq_true hok
      rw [cmdB_4 (by omega) (by omega), hlen, if_neg (by omega)])
    (fun W va vc => by
      rw [ok, ← keyed_k hkl]
      exact kf_x (z := 0) (by decide) W)
    (fun W va vc => by
      rw [ov, ← nil_v]
      exact vf_x (z := 0) (by decide) W)
    hvl o0 o1 c0 c1
  rw [← hr]
  refine HA.mono fun e w' h => ?_
  unfold stN reqP cmdP
  rw [← hr, hz]
  by_cases h1 : (okxN r x && okkN r k && okvN r v) = true
  · by_cases h2 : 1000 < v
    · rw [if_neg (fun h => h.2 h2), if_pos h1, if_pos h2] at h
      rw [if_pos h1, if_pos h2, if_neg (by decide)]
      exact h
    · rw [if_pos ⟨h1, h2⟩, if_pos h1, if_neg h2] at h
      rw [if_pos h1, if_neg h2, if_pos rfl]
      exact h
  · rw [if_neg (fun h => h1 h.1), if_neg h1] at h
    rw [if_neg h1, if_neg (by decide)]
    exact h
set_option maxHeartbeats 2000000 in
theorem req_op8 {c o cas : Int} {r : R5} {x k v o2 o3 : Nat} (hr : r = ofN c) (hz : r.op = 8) (he : r.ext = 0) (hk : r.key = true) (hv : r.val = false) (hb : bd.length = l)
    (H : BodyH w g off l bd c 8 x k v ⟨((bd.drop x).take k).toArray⟩ ((bd.drop (x + k)).take v) o2 o3) (o0 : 0 ≤ o) (o1 : o < 4294967296) (c0 : 0 ≤ c) (c1 : c ≤ 255) :
    Calls Try.prog 20 #[.agg (hdC c (k : Int) (x : Int) o cas), .slice (some ⟨g, off, none⟩) l l] w fun e w' => ReqE (if stN (ofN c) x k v = 0 then reqP c o cas bd x k v else noQ) (stN (ofN c) x k v) w e w' := by
  have ll := H.len
  have lm := H.lm
  have hlen : (bd.take x).length = x := by rw [List.length_take]; omega
  have hkl := key_len (bd := bd) (x := x) (k := k) (l := l) (by omega) hb
  have hvl : ((bd.drop (x + k)).take v).length = v := by rw [List.length_take, List.length_drop]; omega
  have ox : okxN r x = decide (x = 0) := by
    unfold okxN
    rw [if_neg (by rw [hz]; decide), he]
    exact decide_eq_decide.2 (by omega)
  have ok : okkN r k = (decide (1 ≤ k) && decide (k ≤ 250)) := by unfold okkN; rw [hk]; rfl
  have ov : okvN r v = decide (v = 0) := by unfold okvN; rw [hv]; rfl
  have HA := req_all (z := 8) (fl := (cmdB r (bd.take x)).fl) (exp := (cmdB r (bd.take x)).exp) (del := (cmdB r (bd.take x)).del) (ini := (cmdB r (bd.take x)).ini) (mk := (cmdB r (bd.take x)).makes) (okx := okxN r x) (okk := okkN r k) (okv := okvN r v) (cas := cas) (o := o) H
    (fun W K va vc h1 h2 h3 => by
      rw [ox]
      refine (ex_8 h1 h2 (by omega) h3).mono fun e w' h => h.to fun hok => ?_
      have h4 : x = 0 := of_decide_eq_true hok
      rw [cmdB_4 (by omega) (by omega), hlen, if_neg (by omega)])
    (fun W va vc => by
      rw [ok, ← keyed_k hkl]
      exact kf_x (z := 8) (by decide) W)
    (fun W va vc => by
      rw [ov, ← nil_v]
      exact vf_x (z := 8) (by decide) W)
    hvl o0 o1 c0 c1
  rw [← hr]
  refine HA.mono fun e w' h => ?_
  unfold stN reqP cmdP
  rw [← hr, hz]
  by_cases h1 : (okxN r x && okkN r k && okvN r v) = true
  · by_cases h2 : 1000 < v
    · rw [if_neg (fun h => h.2 h2), if_pos h1, if_pos h2] at h
      rw [if_pos h1, if_pos h2, if_neg (by decide)]
      exact h
    · rw [if_pos ⟨h1, h2⟩, if_pos h1, if_neg h2] at h
      rw [if_pos h1, if_neg h2, if_pos rfl]
      exact h
  · rw [if_neg (fun h => h1 h.1), if_neg h1] at h
    rw [if_neg h1, if_neg (by decide)]
    exact h
set_option maxHeartbeats 2000000 in
theorem req_op6 {c o cas : Int} {r : R5} {x k v o2 o3 : Nat} (hr : r = ofN c) (hz : r.op = 6) (he : r.ext = 0) (hk : r.key = true) (hv : r.val = true) (hb : bd.length = l)
    (H : BodyH w g off l bd c 6 x k v ⟨((bd.drop x).take k).toArray⟩ ((bd.drop (x + k)).take v) o2 o3) (o0 : 0 ≤ o) (o1 : o < 4294967296) (c0 : 0 ≤ c) (c1 : c ≤ 255) :
    Calls Try.prog 20 #[.agg (hdC c (k : Int) (x : Int) o cas), .slice (some ⟨g, off, none⟩) l l] w fun e w' => ReqE (if stN (ofN c) x k v = 0 then reqP c o cas bd x k v else noQ) (stN (ofN c) x k v) w e w' := by
  have ll := H.len
  have lm := H.lm
  have hlen : (bd.take x).length = x := by rw [List.length_take]; omega
  have hkl := key_len (bd := bd) (x := x) (k := k) (l := l) (by omega) hb
  have hvl : ((bd.drop (x + k)).take v).length = v := by rw [List.length_take, List.length_drop]; omega
  have ox : okxN r x = decide (x = 0) := by
    unfold okxN
    rw [if_neg (by rw [hz]; decide), he]
    exact decide_eq_decide.2 (by omega)
  have ok : okkN r k = (decide (1 ≤ k) && decide (k ≤ 250)) := by unfold okkN; rw [hk]; rfl
  have ov : okvN r v = true := by unfold okvN; rw [hv]; rfl
  have HA := req_all (z := 6) (fl := (cmdB r (bd.take x)).fl) (exp := (cmdB r (bd.take x)).exp) (del := (cmdB r (bd.take x)).del) (ini := (cmdB r (bd.take x)).ini) (mk := (cmdB r (bd.take x)).makes) (okx := okxN r x) (okk := okkN r k) (okv := okvN r v) (cas := cas) (o := o) H
    (fun W K va vc h1 h2 h3 => by
      rw [ox]
      refine (ex_6 h1 h2 (by omega) h3).mono fun e w' h => h.to fun hok => ?_
      have h4 : x = 0 := of_decide_eq_true hok
      rw [cmdB_4 (by omega) (by omega), hlen, if_neg (by omega)])
    (fun W va vc => by
      rw [ok, ← keyed_k hkl]
      exact kf_x (z := 6) (by decide) W)
    (fun W va vc => by
      rw [ov]
      exact vf_6 (z := 0) W)
    hvl o0 o1 c0 c1
  rw [← hr]
  refine HA.mono fun e w' h => ?_
  unfold stN reqP cmdP
  rw [← hr, hz]
  by_cases h1 : (okxN r x && okkN r k && okvN r v) = true
  · by_cases h2 : 1000 < v
    · rw [if_neg (fun h => h.2 h2), if_pos h1, if_pos h2] at h
      rw [if_pos h1, if_pos h2, if_neg (by decide)]
      exact h
    · rw [if_pos ⟨h1, h2⟩, if_pos h1, if_neg h2] at h
      rw [if_pos h1, if_neg h2, if_pos rfl]
      exact h
  · rw [if_neg (fun h => h1 h.1), if_neg h1] at h
    rw [if_neg h1, if_neg (by decide)]
    exact h
set_option maxHeartbeats 2000000 in
theorem req_op7 {c o cas : Int} {r : R5} {x k v o2 o3 : Nat} (hr : r = ofN c) (hz : r.op = 7) (he : r.ext = 0) (hk : r.key = true) (hv : r.val = true) (hb : bd.length = l)
    (H : BodyH w g off l bd c 7 x k v ⟨((bd.drop x).take k).toArray⟩ ((bd.drop (x + k)).take v) o2 o3) (o0 : 0 ≤ o) (o1 : o < 4294967296) (c0 : 0 ≤ c) (c1 : c ≤ 255) :
    Calls Try.prog 20 #[.agg (hdC c (k : Int) (x : Int) o cas), .slice (some ⟨g, off, none⟩) l l] w fun e w' => ReqE (if stN (ofN c) x k v = 0 then reqP c o cas bd x k v else noQ) (stN (ofN c) x k v) w e w' := by
  have ll := H.len
  have lm := H.lm
  have hlen : (bd.take x).length = x := by rw [List.length_take]; omega
  have hkl := key_len (bd := bd) (x := x) (k := k) (l := l) (by omega) hb
  have hvl : ((bd.drop (x + k)).take v).length = v := by rw [List.length_take, List.length_drop]; omega
  have ox : okxN r x = decide (x = 0) := by
    unfold okxN
    rw [if_neg (by rw [hz]; decide), he]
    exact decide_eq_decide.2 (by omega)
  have ok : okkN r k = (decide (1 ≤ k) && decide (k ≤ 250)) := by unfold okkN; rw [hk]; rfl
  have ov : okvN r v = true := by unfold okvN; rw [hv]; rfl
  have HA := req_all (z := 7) (fl := (cmdB r (bd.take x)).fl) (exp := (cmdB r (bd.take x)).exp) (del := (cmdB r (bd.take x)).del) (ini := (cmdB r (bd.take x)).ini) (mk := (cmdB r (bd.take x)).makes) (okx := okxN r x) (okk := okkN r k) (okv := okvN r v) (cas := cas) (o := o) H
    (fun W K va vc h1 h2 h3 => by
      rw [ox]
      refine (ex_7 h1 h2 (by omega) h3).mono fun e w' h => h.to fun hok => ?_
      have h4 : x = 0 := of_decide_eq_true hok
      rw [cmdB_4 (by omega) (by omega), hlen, if_neg (by omega)])
    (fun W va vc => by
      rw [ok, ← keyed_k hkl]
      exact kf_x (z := 7) (by decide) W)
    (fun W va vc => by
      rw [ov]
      exact vf_7 (z := 0) W)
    hvl o0 o1 c0 c1
  rw [← hr]
  refine HA.mono fun e w' h => ?_
  unfold stN reqP cmdP
  rw [← hr, hz]
  by_cases h1 : (okxN r x && okkN r k && okvN r v) = true
  · by_cases h2 : 1000 < v
    · rw [if_neg (fun h => h.2 h2), if_pos h1, if_pos h2] at h
      rw [if_pos h1, if_pos h2, if_neg (by decide)]
      exact h
    · rw [if_pos ⟨h1, h2⟩, if_pos h1, if_neg h2] at h
      rw [if_pos h1, if_neg h2, if_pos rfl]
      exact h
  · rw [if_neg (fun h => h1 h.1), if_neg h1] at h
    rw [if_neg h1, if_neg (by decide)]
    exact h
set_option maxHeartbeats 2000000 in
theorem req_op14 {c o cas : Int} {r : R5} {x k v o2 o3 : Nat} (hr : r = ofN c) (hz : r.op = 14) (he : r.ext = 0) (hk : r.key = false) (hv : r.val = false) (hb : bd.length = l)
    (H : BodyH w g off l bd c 14 x k v ⟨((bd.drop x).take k).toArray⟩ ((bd.drop (x + k)).take v) o2 o3) (o0 : 0 ≤ o) (o1 : o < 4294967296) (c0 : 0 ≤ c) (c1 : c ≤ 255) :
    Calls Try.prog 20 #[.agg (hdC c (k : Int) (x : Int) o cas), .slice (some ⟨g, off, none⟩) l l] w fun e w' => ReqE (if stN (ofN c) x k v = 0 then reqP c o cas bd x k v else noQ) (stN (ofN c) x k v) w e w' := by
  have ll := H.len
  have lm := H.lm
  have hlen : (bd.take x).length = x := by rw [List.length_take]; omega
  have hkl := key_len (bd := bd) (x := x) (k := k) (l := l) (by omega) hb
  have hvl : ((bd.drop (x + k)).take v).length = v := by rw [List.length_take, List.length_drop]; omega
  have ox : okxN r x = decide (x = 0) := by
    unfold okxN
    rw [if_neg (by rw [hz]; decide), he]
    exact decide_eq_decide.2 (by omega)
  have ok : okkN r k = decide (k = 0) := by unfold okkN; rw [hk]; rfl
  have ov : okvN r v = decide (v = 0) := by unfold okvN; rw [hv]; rfl
  have HA := req_all (z := 14) (fl := (cmdB r (bd.take x)).fl) (exp := (cmdB r (bd.take x)).exp) (del := (cmdB r (bd.take x)).del) (ini := (cmdB r (bd.take x)).ini) (mk := (cmdB r (bd.take x)).makes) (okx := okxN r x) (okk := okkN r k) (okv := okvN r v) (cas := cas) (o := o) H
    (fun W K va vc h1 h2 h3 => by
      rw [ox]
      refine (ex_14 h1 h2 (by omega) h3).mono fun e w' h => h.to fun hok => ?_
      have h4 : x = 0 := of_decide_eq_true hok
      rw [cmdB_4 (by omega) (by omega), hlen, if_neg (by omega)])
    (fun W va vc => by
      rw [ok, ← empty_k hkl]
      exact kf_14 (z := 0) W)
    (fun W va vc => by
      rw [ov, ← nil_v]
      exact vf_x (z := 14) (by decide) W)
    hvl o0 o1 c0 c1
  rw [← hr]
  refine HA.mono fun e w' h => ?_
  unfold stN reqP cmdP
  rw [← hr, hz]
  by_cases h1 : (okxN r x && okkN r k && okvN r v) = true
  · by_cases h2 : 1000 < v
    · rw [if_neg (fun h => h.2 h2), if_pos h1, if_pos h2] at h
      rw [if_pos h1, if_pos h2, if_neg (by decide)]
      exact h
    · rw [if_pos ⟨h1, h2⟩, if_pos h1, if_neg h2] at h
      rw [if_pos h1, if_neg h2, if_pos rfl]
      exact h
  · rw [if_neg (fun h => h1 h.1), if_neg h1] at h
    rw [if_neg h1, if_neg (by decide)]
    exact h
set_option maxHeartbeats 2000000 in
theorem req_op15 {c o cas : Int} {r : R5} {x k v o2 o3 : Nat} (hr : r = ofN c) (hz : r.op = 15) (he : r.ext = 0) (hk : r.key = false) (hv : r.val = false) (hb : bd.length = l)
    (H : BodyH w g off l bd c 15 x k v ⟨((bd.drop x).take k).toArray⟩ ((bd.drop (x + k)).take v) o2 o3) (o0 : 0 ≤ o) (o1 : o < 4294967296) (c0 : 0 ≤ c) (c1 : c ≤ 255) :
    Calls Try.prog 20 #[.agg (hdC c (k : Int) (x : Int) o cas), .slice (some ⟨g, off, none⟩) l l] w fun e w' => ReqE (if stN (ofN c) x k v = 0 then reqP c o cas bd x k v else noQ) (stN (ofN c) x k v) w e w' := by
  have ll := H.len
  have lm := H.lm
  have hlen : (bd.take x).length = x := by rw [List.length_take]; omega
  have hkl := key_len (bd := bd) (x := x) (k := k) (l := l) (by omega) hb
  have hvl : ((bd.drop (x + k)).take v).length = v := by rw [List.length_take, List.length_drop]; omega
  have ox : okxN r x = decide (x = 0) := by
    unfold okxN
    rw [if_neg (by rw [hz]; decide), he]
    exact decide_eq_decide.2 (by omega)
  have ok : okkN r k = decide (k = 0) := by unfold okkN; rw [hk]; rfl
  have ov : okvN r v = decide (v = 0) := by unfold okvN; rw [hv]; rfl
  have HA := req_all (z := 15) (fl := (cmdB r (bd.take x)).fl) (exp := (cmdB r (bd.take x)).exp) (del := (cmdB r (bd.take x)).del) (ini := (cmdB r (bd.take x)).ini) (mk := (cmdB r (bd.take x)).makes) (okx := okxN r x) (okk := okkN r k) (okv := okvN r v) (cas := cas) (o := o) H
    (fun W K va vc h1 h2 h3 => by
      rw [ox]
      refine (ex_15 h1 h2 (by omega) h3).mono fun e w' h => h.to fun hok => ?_
      have h4 : x = 0 := of_decide_eq_true hok
      rw [cmdB_4 (by omega) (by omega), hlen, if_neg (by omega)])
    (fun W va vc => by
      rw [ok, ← empty_k hkl]
      exact kf_15 (z := 0) W)
    (fun W va vc => by
      rw [ov, ← nil_v]
      exact vf_x (z := 15) (by decide) W)
    hvl o0 o1 c0 c1
  rw [← hr]
  refine HA.mono fun e w' h => ?_
  unfold stN reqP cmdP
  rw [← hr, hz]
  by_cases h1 : (okxN r x && okkN r k && okvN r v) = true
  · by_cases h2 : 1000 < v
    · rw [if_neg (fun h => h.2 h2), if_pos h1, if_pos h2] at h
      rw [if_pos h1, if_pos h2, if_neg (by decide)]
      exact h
    · rw [if_pos ⟨h1, h2⟩, if_pos h1, if_neg h2] at h
      rw [if_pos h1, if_neg h2, if_pos rfl]
      exact h
  · rw [if_neg (fun h => h1 h.1), if_neg h1] at h
    rw [if_neg h1, if_neg (by decide)]
    exact h
set_option maxHeartbeats 2000000 in
theorem req_op16 {c o cas : Int} {r : R5} {x k v o2 o3 : Nat} (hr : r = ofN c) (hz : r.op = 16) (he : r.ext = 0) (hk : r.key = false) (hv : r.val = false) (hb : bd.length = l)
    (H : BodyH w g off l bd c 16 x k v ⟨((bd.drop x).take k).toArray⟩ ((bd.drop (x + k)).take v) o2 o3) (o0 : 0 ≤ o) (o1 : o < 4294967296) (c0 : 0 ≤ c) (c1 : c ≤ 255) :
    Calls Try.prog 20 #[.agg (hdC c (k : Int) (x : Int) o cas), .slice (some ⟨g, off, none⟩) l l] w fun e w' => ReqE (if stN (ofN c) x k v = 0 then reqP c o cas bd x k v else noQ) (stN (ofN c) x k v) w e w' := by
  have ll := H.len
  have lm := H.lm
  have hlen : (bd.take x).length = x := by rw [List.length_take]; omega
  have hkl := key_len (bd := bd) (x := x) (k := k) (l := l) (by omega) hb
  have hvl : ((bd.drop (x + k)).take v).length = v := by rw [List.length_take, List.length_drop]; omega
  have ox : okxN r x = decide (x = 0) := by
    unfold okxN
    rw [if_neg (by rw [hz]; decide), he]
    exact decide_eq_decide.2 (by omega)
  have ok : okkN r k = decide (k = 0) := by unfold okkN; rw [hk]; rfl
  have ov : okvN r v = decide (v = 0) := by unfold okvN; rw [hv]; rfl
  have HA := req_all (z := 16) (fl := (cmdB r (bd.take x)).fl) (exp := (cmdB r (bd.take x)).exp) (del := (cmdB r (bd.take x)).del) (ini := (cmdB r (bd.take x)).ini) (mk := (cmdB r (bd.take x)).makes) (okx := okxN r x) (okk := okkN r k) (okv := okvN r v) (cas := cas) (o := o) H
    (fun W K va vc h1 h2 h3 => by
      rw [ox]
      refine (ex_16 h1 h2 (by omega) h3).mono fun e w' h => h.to fun hok => ?_
      have h4 : x = 0 := of_decide_eq_true hok
      rw [cmdB_4 (by omega) (by omega), hlen, if_neg (by omega)])
    (fun W va vc => by
      rw [ok, ← empty_k hkl]
      exact kf_16 (z := 0) W)
    (fun W va vc => by
      rw [ov, ← nil_v]
      exact vf_x (z := 16) (by decide) W)
    hvl o0 o1 c0 c1
  rw [← hr]
  refine HA.mono fun e w' h => ?_
  unfold stN reqP cmdP
  rw [← hr, hz]
  by_cases h1 : (okxN r x && okkN r k && okvN r v) = true
  · by_cases h2 : 1000 < v
    · rw [if_neg (fun h => h.2 h2), if_pos h1, if_pos h2] at h
      rw [if_pos h1, if_pos h2, if_neg (by decide)]
      exact h
    · rw [if_pos ⟨h1, h2⟩, if_pos h1, if_neg h2] at h
      rw [if_pos h1, if_neg h2, if_pos rfl]
      exact h
  · rw [if_neg (fun h => h1 h.1), if_neg h1] at h
    rw [if_neg h1, if_neg (by decide)]
    exact h
/-- The request of a head and its body, or the status of what is none. -/
theorem request_any {c o cas : Int} {x k : Nat} (hB : Bu w (some ⟨g, off, none⟩) l l bd) (hg : g < w.heap.size) (hl : l ≤ 2048) (hx : x ≤ 255) (hk : k ≤ 65535) (o0 : 0 ≤ o) (o1 : o < 4294967296) (c0 : 0 ≤ c) (c1 : c ≤ 255) :
    Calls Try.prog 20 #[.agg (hdC c (k : Int) (x : Int) o cas), .slice (some ⟨g, off, none⟩) l l] w fun e w' => ReqE (if statusN (ofN c) x k l = 0 then reqP c o cas bd x k (l - x - k) else noQ) (statusN (ofN c) x k l) w e w' := by
  by_cases hop : (ofN c).op < 0
  · have hs : statusN (ofN c) x k l = 129 := by unfold statusN; rw [if_pos hop]
    rw [hs, if_neg (by decide)]
    exact req_none (by unfold opP; rw [if_neg (by omega)])
  · have hz : opP c = ((ofN c).op, true) := by unfold opP; rw [if_pos (by omega)]
    by_cases hf : l < x + k
    · have hs : statusN (ofN c) x k l = 4 := by unfold statusN; rw [if_neg hop, if_pos (.inl (by omega))]
      rw [hs, if_neg (by decide)]
      exact req_parts hz hf hx hk
    · have T := tab_of c0 c1 (by omega)
      have ll : l = x + k + (l - x - k) := by omega
      obtain ⟨o2, o3, H⟩ := body_of (z := (ofN c).op) hB hg hz ll hl
      rw [status_stN T ll]
      have hb := hB.n
      unfold TabN at T
      rcases T with ⟨hz | hz | hz, he, hk, hv⟩ | ⟨hz | hz, he, hk, hv⟩ | ⟨hz | hz, he, hk, hv⟩ | ⟨hz, he, hk, hv⟩ | ⟨hz | hz, he, hk, hv⟩ | ⟨hz | hz, he, hk, hv⟩ | ⟨hz | hz | hz, he, hk, hv⟩
      · rw [hz] at H; exact req_op3 rfl hz he hk hv hb H o0 o1 c0 c1
      · rw [hz] at H; exact req_op4 rfl hz he hk hv hb H o0 o1 c0 c1
      · rw [hz] at H; exact req_op5 rfl hz he hk hv hb H o0 o1 c0 c1
      · rw [hz] at H; exact req_op10 rfl hz he hk hv hb H o0 o1 c0 c1
      · rw [hz] at H; exact req_op11 rfl hz he hk hv hb H o0 o1 c0 c1
      · rw [hz] at H; exact req_op2 rfl hz he hk hv hb H o0 o1 c0 c1
      · rw [hz] at H; exact req_op1 rfl hz he hk hv hb H o0 o1 c0 c1
      · rw [hz] at H; exact req_op13 rfl hz he hk hv hb H o0 o1 c0 c1
      · rw [hz] at H; exact req_op0 rfl hz he hk hv hb H o0 o1 c0 c1
      · rw [hz] at H; exact req_op8 rfl hz he hk hv hb H o0 o1 c0 c1
      · rw [hz] at H; exact req_op6 rfl hz he hk hv hb H o0 o1 c0 c1
      · rw [hz] at H; exact req_op7 rfl hz he hk hv hb H o0 o1 c0 c1
      · rw [hz] at H; exact req_op14 rfl hz he hk hv hb H o0 o1 c0 c1
      · rw [hz] at H; exact req_op15 rfl hz he hk hv hb H o0 o1 c0 c1
      · rw [hz] at H; exact req_op16 rfl hz he hk hv hb H o0 o1 c0 c1
end
end Go.Proofs.Ytegaljpllcgaaaa
