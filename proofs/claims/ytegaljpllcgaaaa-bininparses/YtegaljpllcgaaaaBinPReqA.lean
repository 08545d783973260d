/- Package binin's request: what its walks share. Conditions: none. -/
import Derived.Test.YtegaljpllcgaaaaBinPForm
import Derived.Test.YtegaljpllcgaaaaBinPExu
import Derived.Test.YtegaljpllcgaaaaByteClone
namespace Go.Proofs.Ytegaljpllcgaaaa
set_option linter.unusedVariables false
open Go.RowKit Go.Shelf

theorem results_ct_row {P : Program} {fn : Func} {p u : Tmp} {ty : TypeId} (h : fn.results = #[.cell p ty, .tmp u]) (tmps : Array Value) (w : World) (g : Nat) (t : TypeId) (cs : Array Value) (fr : Nat × Nat) (d : TypeDesc) {v : Value}
    (hp : tmps.getD p undef = .pointer (some ⟨g, 0, none⟩)) (hv : tmps.getD u undef = v) (hg : w.heap[g]? = some (.cells cs t fr))
    (hu : P.underlying ty = some d) (hd : (match d with | .struct _ | .array _ _ => true | _ => false) = true) (hi : (P.info? ty).map (·.size) = some cs.size) :
    (results fn tmps).run P w = .ok (.tuple #[.agg cs, v]) w := by
  rw [results_cell_tmp h, hp, hv]
  simp [asAddr, run_loadVar_row w g t ty cs fr d hg hu hd hi, Result.andThen]
theorem wpList_load_g {P : Program} {ops : Array Oper} {rest : List Oper} {o : Oper} {a : Act} {w : World} {Q : Exit → Act → World → Prop} (hw : Region.wanted o (yielded ops a.tmps) = true) (ty : TypeId) (x : Operand) (ho : o.op = .load ty x) (g : Nat) (hx : a.eval x = .pointer (some ⟨g, 0, none⟩)) (t : TypeId) (cs : Array Value) (fr : Nat × Nat) (d : TypeDesc) (hg : w.heap[g]? = some (.cells cs t fr))
    (hu : P.underlying ty = some d) (hd : (match d with | .struct _ | .array _ _ => true | _ => false) = true) (hi : (P.info? ty).map (·.size) = some cs.size) (h : wpList P ops Q rest (a.put o.dst (.agg cs)) w) : wpList P ops Q (o :: rest) a w := by
  show (if Region.wanted o (yielded ops a.tmps) then _ else _)
  rw [if_pos hw]
  exact .inl (wp_load_row ty x ho g hx t cs fr d hg hu hd hi h)
/-- What is answered: a request, or none, and a status. -/
def ReqE (q : Qv) (st : Int) (w : World) (e : Ending) (w' : World) : Prop := ∃ ca cc ta tc ka kc, e = .returned (.tuple #[.agg (rqC q ca cc ta tc ka kc), .int .u16 st]) ∧ (∀ W : World, (∀ k, w.heap.size ≤ k → k < w'.heap.size → W.heap[k]? = w'.heap[k]?) → QAt W q ca cc ta tc ka kc) ∧ w.grownBy w' none
def noRow : Array Value := rqC noQ none 0 none 0 none 0
theorem noRow_eq : noRow = #[.slice none 0 0, .int .i64 0, .string ⟨#[]⟩, .int .i64 0, .int .u32 0, .bool false, .bool false, .string ⟨#[]⟩, .slice none 0 0, .slice none 0 0, .bool false] := rfl
theorem reqE_no {fn : Func} {w W : World} {R : Nat} {st : Int} {tmps : Array Value} {p u : Tmp} (hf : fn.results = #[.cell p 31, .tmp u]) (hb : W.heap[R]? = some (.cells noRow 31 (0, 0))) (h4 : tmps.getD p undef = .pointer (some ⟨R, 0, none⟩)) (h5 : tmps.getD u undef = .int .u16 st) (hg : w.grownBy W none) :
    bodyPost Try.prog fn (ReqE noQ st w) .ret { tmps := tmps, defers := [] } W :=
  bodyPost_ret (results_ct_row hf tmps W R 31 noRow (0, 0) _ h4 h5 hb Try.underlying31 rfl (req_size noQ none none none 0 0 0)) rfl ⟨none, 0, none, 0, none, 0, rfl, fun W2 _ => QAt.none_ W2, hg⟩
def zeroCp : Array Value := #[.int .i64 0, .string ⟨#[]⟩, .slice none 0 0, .int .u32 0, .int .i64 0, .int .u64 0, .int .u64 0, .int .u64 0, .bool false, .bool false]
theorem c0_size (z : Int) (key : ByteArray) (va : Option Addr) (n vc : Nat) (fl exp cas del ini : Int) (mk : Bool) : (Try.prog.info? 39).map (·.size) = some (cell0 z key va n vc fl exp cas del ini mk).size := by
  have h : (Try.prog.info? 39).map (·.size) = some 10 := by kernel_rfl
  exact h
theorem c0_one (z : Int) (key : ByteArray) (va : Option Addr) (n vc : Nat) (fl exp cas del ini : Int) (mk : Bool) : (cell0 z key va n vc fl exp cas del ini mk).all (·.oneCell') = true := by simp [cell0, Value.oneCell']
/-- Bytes that lie in another block. -/
def Off (W : World) (va : Option Addr) (v vc : Nat) (val : List UInt8) (K : Nat) : Prop := Bu W va v vc val ∧ (v = 0 ∨ ∃ b o, va = some ⟨b, o, none⟩ ∧ b ≠ K)
theorem off_old {W : World} {va : Option Addr} {v vc : Nat} {val : List UInt8} {K : Nat} (h : Bu W va v vc val) (hK : W.heap.size ≤ K) : Off W va v vc val K := by
  refine ⟨h, ?_⟩
  rcases h.b with ⟨h1, _, _⟩ | ⟨b, o, r⟩
  · exact .inl h1
  · exact .inr ⟨b, o, r.at_, by have := r.old; omega⟩
theorem off_new {W : World} {n0 v : Nat} {va : Option Addr} {vc : Nat} {val : List UInt8} {K : Nat} (h : ValAt n0 W va vc val) (hv : val.length = v) (hK : K < n0) : Off W va v vc val K := by
  subst hv
  refine ⟨h.bu, ?_⟩
  by_cases h0 : val.length = 0
  · exact .inl h0
  · obtain ⟨g, cap, e⟩ := own_form (show W.ownsRow n0 5 1 (.slice va val.length vc) val.length (byU val) from h) (by omega)
    cases e
    exact .inr ⟨g, 0, rfl, by
      have h5 : n0 ≤ g := (own_at (show W.ownsRow n0 5 1 (.slice (some ⟨g, 0, none⟩) val.length vc) val.length (byU val) from h) rfl).1
      show g ≠ K
      omega⟩
theorem Off.turn {W W' : World} {va : Option Addr} {v vc : Nat} {val : List UInt8} {K : Nat} (h : Off W va v vc val K) {row : Option Nat} (hg : W.grownBy W' row) (hr : ∀ k, row = some k → k = K) : Off W' va v vc val K := by
  obtain ⟨hb, ho⟩ := h
  refine ⟨⟨hb.n, ?_, hb.c, hb.m⟩, ho⟩
  rcases hb.b with h1 | ⟨b, off, r⟩
  · exact .inl h1
  · have e : W'.heap[b]? = W.heap[b]? := hg.block b r.old (fun e' => by
      have := hr b e'.symm
      rcases ho with h0 | ⟨b', o', e2, hne⟩
      · have := r.one
        omega
      · have := r.at_
        rw [e2] at this
        cases this
        omega)
    obtain ⟨q1, q2, q3, q4, q5, q6, q7⟩ := r
    exact .inr ⟨b, off, q1, q2, q3, q4, q5, fun i hi => (World.cell?_of_block (a := ⟨b, off + i, none⟩) e).trans (q6 i hi), Nat.lt_of_lt_of_le q7 hg.size⟩
theorem oneP {W : World} {B : Nat} {c : Cv} {va : Option Addr} {vc : Nat} {f : Fv} {ka : Option Addr} {kc : Nat} (ht : f.toks = []) (hB : W.heap[B]? = some (.cells (cmC c va vc) 39 (0, 0))) (hv : Bu W va c.val.length vc c.val) (hk : Su W ka f.keys.length kc f.keys) : QAt W ⟨[c], f⟩ (some ⟨B, 0, none⟩) 1 none 0 ka kc := by
  refine ⟨⟨rfl, Nat.le_refl _, by unfold maxLen; decide, .inr ⟨B, 0, rfl, (Array.getElem?_eq_some_iff.1 hB).1, fun i x hi => ?_⟩⟩, ?_, hk⟩
  · match i, hi with
    | 0, hi =>
      obtain rfl : c = x := by simpa using hi
      refine ⟨va, vc, fun j v hv => ?_, hv⟩
      unfold World.cell?
      rw [hB]
      simpa using hv
  · show Su W none f.toks.length 0 f.toks
    rw [ht]
    exact Su.none_ W
/-- Bytes that lie in another block than the one that is written. -/
theorem Bu.only {W W' : World} {va : Option Addr} {v vc R : Nat} {val : List UInt8} (h : Bu W va v vc val) (hn : v = 0 ∨ ∃ b o, va = some ⟨b, o, none⟩ ∧ b ≠ R) (ho : ∀ k, k ≠ R → W'.heap[k]? = W.heap[k]?) : Bu W' va v vc val := by
  refine ⟨h.n, ?_, h.c, h.m⟩
  rcases h.b with h1 | ⟨b, off, r⟩
  · exact .inl h1
  · have e : W'.heap[b]? = W.heap[b]? := ho b (by
      rcases hn with h0 | ⟨b', o', e2, hne⟩
      · have := r.one
        omega
      · have := r.at_
        rw [e2] at this
        cases this
        exact hne)
    obtain ⟨q1, q2, q3, q4, q5, q6, q7⟩ := r
    refine .inr ⟨b, off, q1, q2, q3, q4, q5, fun i hi => (World.cell?_of_block (a := ⟨b, off + i, none⟩) e).trans (q6 i hi), ?_⟩
    rw [Array.getElem?_eq_getElem q7] at e
    exact (Array.getElem?_eq_some_iff.1 e).1
theorem Su.only {W W' : World} {ka : Option Addr} {n kc R : Nat} {xs : List ByteArray} (h : Su W ka n kc xs) (hn : ∀ b o, ka = some ⟨b, o, none⟩ → b ≠ R) (ho : ∀ k, k ≠ R → W'.heap[k]? = W.heap[k]?) : Su W' ka n kc xs := by
  refine ⟨h.n, h.c, h.m, ?_⟩
  rcases h.at_ with h0 | ⟨b, off, e, hl, hx⟩
  · exact .inl h0
  · have e1 := ho b (hn b off e)
    refine .inr ⟨b, off, e, ?_, fun i x hi => (World.cell?_of_block (a := ⟨b, off + i, none⟩) e1).trans (hx i x hi)⟩
    rw [Array.getElem?_eq_getElem hl] at e1
    exact (Array.getElem?_eq_some_iff.1 e1).1
theorem off_ge {W : World} {n0 v : Nat} {va : Option Addr} {vc : Nat} {val : List UInt8} {K : Nat} (h : ValAt n0 W va vc val) (hv : val.length = v) (hK : K ≤ n0) : v = 0 ∨ ∃ b o, va = some ⟨b, o, none⟩ ∧ K ≤ b := by
  subst hv
  by_cases h0 : val.length = 0
  · exact .inl h0
  · obtain ⟨g, cap, e⟩ := own_form (show W.ownsRow n0 5 1 (.slice va val.length vc) val.length (byU val) from h) (by omega)
    cases e
    refine .inr ⟨g, 0, rfl, ?_⟩
    have h5 : n0 ≤ g := (own_at (show W.ownsRow n0 5 1 (.slice (some ⟨g, 0, none⟩) val.length vc) val.length (byU val) from h) rfl).1
    show K ≤ g
    omega
theorem heap_lt {W W' : World} {b : Nat} (hb : b < W.heap.size) (e : W'.heap[b]? = W.heap[b]?) : b < W'.heap.size := by
  rw [Array.getElem?_eq_getElem hb] at e
  exact (Array.getElem?_eq_some_iff.1 e).1
theorem Bu.keep {W W' : World} {va : Option Addr} {v vc N : Nat} {val : List UInt8} (h : Bu W va v vc val) (hn : v = 0 ∨ ∃ b o, va = some ⟨b, o, none⟩ ∧ N ≤ b) (ho : ∀ k, N ≤ k → k < W.heap.size → W'.heap[k]? = W.heap[k]?) : Bu W' va v vc val := by
  refine ⟨h.n, ?_, h.c, h.m⟩
  rcases h.b with h1 | ⟨b, off, r⟩
  · exact .inl h1
  · have e : W'.heap[b]? = W.heap[b]? := ho b (by
      rcases hn with h0 | ⟨b', o', e2, hne⟩
      · have := r.one
        omega
      · have := r.at_
        rw [e2] at this
        cases this
        exact hne) r.old
    obtain ⟨q1, q2, q3, q4, q5, q6, q7⟩ := r
    exact .inr ⟨b, off, q1, q2, q3, q4, q5, fun i hi => (World.cell?_of_block (a := ⟨b, off + i, none⟩) e).trans (q6 i hi), heap_lt q7 e⟩
theorem Su.keep {W W' : World} {ka : Option Addr} {n kc N : Nat} {xs : List ByteArray} (h : Su W ka n kc xs) (hn : ∀ b o, ka = some ⟨b, o, none⟩ → N ≤ b) (ho : ∀ k, N ≤ k → k < W.heap.size → W'.heap[k]? = W.heap[k]?) : Su W' ka n kc xs := by
  refine ⟨h.n, h.c, h.m, ?_⟩
  rcases h.at_ with h0 | ⟨b, off, e, hl, hx⟩
  · exact .inl h0
  · have e1 := ho b (hn b off e) hl
    exact .inr ⟨b, off, e, heap_lt hl e1, fun i x hi => (World.cell?_of_block (a := ⟨b, off + i, none⟩) e1).trans (hx i x hi)⟩
/-- A request is answered. -/
theorem reqE_yes {w X W9 : World} {R Y : Nat} {c o cas z fl exp del ini : Int} {mk : Bool} {key : ByteArray} {val : List UInt8} {va ka : Option Addr} {v vc kc : Nat} (hvl : val.length = v)
    (r9 : W9.heap[R]? = some (.cells (rqC ⟨[⟨z, key, val, fl, exp, cas, del, ini, mk, false⟩], formP c o key⟩ (some ⟨Y, 0, none⟩) 1 none 0 ka kc) 31 (0, 0))) (o9 : ∀ k, k ≠ R → W9.heap[k]? = X.heap[k]?) (hYR : Y ≠ R)
    (NY : X.heap[Y]? = some (.cells (cell0 z key va v vc fl exp cas del ini mk) 39 (0, 0))) (OV : Bu X va v vc val) (nR : v = 0 ∨ ∃ b o, va = some ⟨b, o, none⟩ ∧ b ≠ R) (hsu : Su X ka (formP c o key).keys.length kc (formP c o key).keys) (nk : ∀ b o, ka = some ⟨b, o, none⟩ → b ≠ R) (GE : w.grownBy W9 none) (hYw : w.heap.size ≤ Y) (nV : v = 0 ∨ ∃ b o, va = some ⟨b, o, none⟩ ∧ w.heap.size ≤ b) (nkw : ∀ b o, ka = some ⟨b, o, none⟩ → w.heap.size ≤ b) :
    ∀ {fn : Func} {tmps : Array Value} {p u : Tmp}, fn.results = #[.cell p 31, .tmp u] → tmps.getD p undef = .pointer (some ⟨R, 0, none⟩) → tmps.getD u undef = .int .u16 0 →
      bodyPost Try.prog fn (ReqE ⟨[⟨z, key, val, fl, exp, cas, del, ini, mk, false⟩], formP c o key⟩ 0 w) .ret { tmps := tmps, defers := [] } W9 := by
  intro fn tmps p u hf h4 h5
  subst hvl
  exact bodyPost_ret (results_ct_row hf tmps W9 R 31 _ (0, 0) _ h4 h5 r9 Try.underlying31 rfl (req_size _ _ _ _ _ _ _)) rfl ⟨_, _, _, _, _, _, rfl, fun W2 h2 => oneP (va := va) (vc := vc) rfl ((h2 Y hYw (Array.getElem?_eq_some_iff.1 ((o9 Y hYR).trans NY)).1).trans ((o9 Y hYR).trans NY)) ((OV.only nR o9).keep nV h2) ((hsu.only nk o9).keep nkw h2), GE⟩
/-- What a body's walk is told. -/
structure BodyH (w : World) (g off l : Nat) (bd : List UInt8) (c z : Int) (x k v : Nat) (key : ByteArray) (val : List UInt8) (o2 o3 : Nat) : Prop where
  gw : g < w.heap.size
  op : opP c = (z, true)
  len : l = x + k + v
  lm : l ≤ 2048
  s1 : ∀ W : World, (Instr.sliceAt 22 (.slice (some ⟨g, off, none⟩) l l) none (some (.int .i64 (x : Int))) (some (.int .i64 (x : Int)))).run Try.prog W = .ok (.slice (some ⟨g, off, none⟩) x x) W
  s2 : ∀ W : World, (Instr.sliceAt 22 (.slice (some ⟨g, off, none⟩) l l) (some (.int .i64 (x : Int))) (some (.int .i64 ((x : Int) + (k : Int)))) (some (.int .i64 ((x : Int) + (k : Int))))).run Try.prog W = .ok (.slice (some ⟨g, o2, none⟩) k k) W
  s3 : ∀ W : World, (Instr.sliceAt 22 (.slice (some ⟨g, off, none⟩) l l) (some (.int .i64 ((x : Int) + (k : Int)))) (some (.int .i64 (l : Int))) (some (.int .i64 (l : Int)))).run Try.prog W = .ok (.slice (some ⟨g, o3, none⟩) v v) W
  b1 : ∀ W : World, w.grownBy W none → Bu W (some ⟨g, off, none⟩) x x (bd.take x)
  b2 : ∀ W : World, w.grownBy W none → (convert 22 9 (.slice (some ⟨g, o2, none⟩) k k)).run Try.prog W = .ok (.string key) W
  b3 : ∀ W : World, w.grownBy W none → Bu W (some ⟨g, o3, none⟩) v v val
theorem body_of {w : World} {g off l : Nat} {bd : List UInt8} {c z : Int} {x k v : Nat} (hB : Bu w (some ⟨g, off, none⟩) l l bd) (hg : g < w.heap.size) (hz : opP c = (z, true)) (hl : l = x + k + v) (hm : l ≤ 2048) : ∃ o2 o3, BodyH w g off l bd c z x k v ⟨((bd.drop x).take k).toArray⟩ ((bd.drop (x + k)).take v) o2 o3 := by
  obtain ⟨s1, b1⟩ := hB.pre3 (m := x) (by omega) (x : Int) rfl
  obtain ⟨o2, s2, b2⟩ := hB.sub3 (i := x) (m := k) (by omega) (x : Int) ((x : Int) + (k : Int)) rfl rfl
  obtain ⟨o3, s3, b3⟩ := hB.sub3 (i := x + k) (m := v) (by omega) ((x : Int) + (k : Int)) (l : Int) (by push_cast; rfl) (by rw [hl]; push_cast; rfl)
  refine ⟨o2, o3, hg, hz, hl, hm, s1, s2, s3, fun W h => b1 W (hB.on (below_gr h)), fun W h => ?_, fun W h => b3 W (hB.on (below_gr h))⟩
  have := conv_bs (b2 W (hB.on (below_gr h))).b
  rwa [strOf_ints] at this
end Go.Proofs.Ytegaljpllcgaaaa
