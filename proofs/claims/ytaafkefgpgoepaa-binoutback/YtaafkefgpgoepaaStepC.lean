/- Commands, requests and steps in memory, as they may be read. Conditions: none. -/
import Derived.Test.YtaafkefgpgoepaaCmdV
import Derived.Test.YtaafkefgpgoepaaG01Joined
import Derived.Deep.MidRow
namespace Go.Proofs.Ytaafkefgpgoepaa
set_option linter.unusedVariables false
open Go.RowKit

def cmC (c : Cv) (a : Option Addr) (k : Nat) : Array Value := #[.int .i64 c.op, .string c.key, .slice a c.val.length k, .int .u32 c.fl, .int .i64 c.exp, .int .u64 c.cas, .int .u64 c.del, .int .u64 c.ini, .bool c.makes, .bool c.sets]
theorem cmd_size (c : Cv) (a : Option Addr) (k : Nat) : (Try.prog.info? 48).map (·.size) = some (cmC c a k).size := by
  have h : (Try.prog.info? 48).map (·.size) = some 10 := by kernel_rfl
  exact h
theorem cmd_one (c : Cv) (a : Option Addr) (k : Nat) : (cmC c a k).all (·.oneCell') = true := by simp [cmC, Value.oneCell']
/-- A row of texts that may be read. -/
structure Su (w : World) (a : Option Addr) (len cap : Nat) (xs : List ByteArray) : Prop where
  n : xs.length = len
  c : len ≤ cap
  m : cap ≤ maxLen
  at_ : len = 0 ∨ ∃ b off, a = some ⟨b, off, none⟩ ∧ b < w.heap.size ∧ ∀ (i : Nat) (x : ByteArray), xs[i]? = some x → w.cell? ⟨b, off + i, none⟩ = some (.string x)
/-- A row of commands that may be read, their values with them. -/
structure Cu (w : World) (a : Option Addr) (len cap : Nat) (cs : List Cv) : Prop where
  n : cs.length = len
  c : len ≤ cap
  m : cap ≤ maxLen
  at_ : len = 0 ∨ ∃ b off, a = some ⟨b, off, none⟩ ∧ b < w.heap.size ∧ ∀ (i : Nat) (c : Cv), cs[i]? = some c → ∃ va vc, w.rangeAt b (off + i * 10) (cmC c va vc).toList ∧ Bu w va c.val.length vc c.val
section
variable {w w' : World} {a : Option Addr} {len cap : Nat}
theorem Su.on {xs : List ByteArray} (h : Su w a len cap xs) (hb : Below w.heap.size w w') : Su w' a len cap xs := by
  refine ⟨h.n, h.c, h.m, ?_⟩
  rcases h.at_ with h0 | ⟨b, off, e, hl, hx⟩
  · exact .inl h0
  · exact .inr ⟨b, off, e, Nat.lt_of_lt_of_le hl hb.size, fun i x hi => (hb.cell (p := ⟨b, off + i, none⟩) hl).trans (hx i x hi)⟩
theorem Su.get {xs : List ByteArray} (h : Su w a len cap xs) {i : Nat} (hi : i < len) : ∃ b off, a = some ⟨b, off, none⟩ ∧ w.cell? ⟨b, off + i, none⟩ = some (.string (xs[i]'(by rw [h.n]; exact hi))) := by
  rcases h.at_ with h0 | ⟨b, off, e, hl, hx⟩
  · omega
  · exact ⟨b, off, e, hx i _ (List.getElem?_eq_getElem _)⟩
theorem Su.none_ (w : World) : Su w none 0 0 [] := ⟨rfl, Nat.le_refl _, Nat.zero_le _, .inl rfl⟩
theorem Su.own {n0 n : Nat} {v : Value} {xs : List ByteArray} (h : w.ownsRow n0 9 1 v n (xs.map Value.string)) : ∃ a c, v = .slice a n c ∧ Su w a n c xs := by
  obtain ⟨a, c, rfl⟩ := own_shape h
  have hl : xs.length = n := by have := h.1; simpa using this
  refine ⟨a, c, rfl, hl, (own_cap h).1, (own_cap h).2, ?_⟩
  by_cases h0 : n = 0
  · exact .inl h0
  · obtain ⟨g, cap, e⟩ := own_form h (by omega)
    cases e
    refine .inr ⟨g, 0, rfl, (own_at h rfl).2.1, fun i x hi => ?_⟩
    have hi' : i < n := by have := (List.getElem?_eq_some_iff.1 hi).1; omega
    rw [Nat.zero_add, h.cellAt i (by omega), List.getElem?_map, hi]
    rfl
theorem Cu.on {cs : List Cv} (h : Cu w a len cap cs) (hb : Below w.heap.size w w') : Cu w' a len cap cs := by
  refine ⟨h.n, h.c, h.m, ?_⟩
  rcases h.at_ with h0 | ⟨b, off, e, hl, hx⟩
  · exact .inl h0
  · refine .inr ⟨b, off, e, Nat.lt_of_lt_of_le hl hb.size, fun i c hi => ?_⟩
    obtain ⟨va, vc, h1, h2⟩ := hx i c hi
    exact ⟨va, vc, fun j v hv => (hb.cell (p := ⟨b, off + i * 10 + j, none⟩) hl).trans (h1 j v hv), h2.on hb⟩
theorem Cu.none_ (w : World) : Cu w none 0 0 [] := ⟨rfl, Nat.le_refl _, Nat.zero_le _, .inl rfl⟩
theorem Cu.get {cs : List Cv} (h : Cu w a len cap cs) {i : Nat} (hi : i < len) : ∃ b off, a = some ⟨b, off, none⟩ ∧ ∃ va vc, w.rangeAt b (off + i * 10) (cmC (cs[i]'(by rw [h.n]; exact hi)) va vc).toList ∧ Bu w va (cs[i]'(by rw [h.n]; exact hi)).val.length vc (cs[i]'(by rw [h.n]; exact hi)).val := by
  rcases h.at_ with h0 | ⟨b, off, e, hl, hx⟩
  · omega
  · exact ⟨b, off, e, hx i _ (List.getElem?_eq_getElem _)⟩
end
/-- A request, and a step, as cells. -/
def fmC (f : Fv) (ta : Option Addr) (tc : Nat) (ka : Option Addr) (kc : Nat) : Array Value := #[.int .i64 f.dia, .string f.verb, .int .i64 f.code, .int .u32 f.opq, .bool f.quiet, .bool f.wcas, .string f.flags, .slice ta f.toks.length tc, .slice ka f.keys.length kc, .bool f.b64]
def rqC (r : Qv) (ca : Option Addr) (cc : Nat) (ta : Option Addr) (tc : Nat) (ka : Option Addr) (kc : Nat) : Array Value :=
  #[.slice ca r.cmds.length cc, .int .i64 r.form.dia, .string r.form.verb, .int .i64 r.form.code, .int .u32 r.form.opq, .bool r.form.quiet, .bool r.form.wcas, .string r.form.flags, .slice ta r.form.toks.length tc, .slice ka r.form.keys.length kc, .bool r.form.b64]
def stC (s : Sv) (ca : Option Addr) (cc : Nat) (ta : Option Addr) (tc : Nat) (ka : Option Addr) (kc : Nat) : Array Value :=
  #[.slice ca s.req.cmds.length cc, .int .i64 s.req.form.dia, .string s.req.form.verb, .int .i64 s.req.form.code, .int .u32 s.req.form.opq, .bool s.req.form.quiet, .bool s.req.form.wcas, .string s.req.form.flags, .slice ta s.req.form.toks.length tc, .slice ka s.req.form.keys.length kc, .bool s.req.form.b64,
    .string s.reply, .int .i64 s.used, .int .i64 s.skip, .bool s.line, .int .i64 s.e]
/-- What a request's rows hold. -/
structure QAt (w : World) (r : Qv) (ca : Option Addr) (cc : Nat) (ta : Option Addr) (tc : Nat) (ka : Option Addr) (kc : Nat) : Prop where
  cmds : Cu w ca r.cmds.length cc r.cmds
  toks : Su w ta r.form.toks.length tc r.form.toks
  keys : Su w ka r.form.keys.length kc r.form.keys
theorem QAt.on {w w' : World} {r : Qv} {ca ta ka : Option Addr} {cc tc kc : Nat} (h : QAt w r ca cc ta tc ka kc) (hb : Below w.heap.size w w') : QAt w' r ca cc ta tc ka kc := ⟨h.cmds.on hb, h.toks.on hb, h.keys.on hb⟩
theorem QAt.none_ (w : World) : QAt w noQ none 0 none 0 none 0 := ⟨Cu.none_ w, Su.none_ w, Su.none_ w⟩
/-- A step that was answered. -/
def StepAt (w : World) (s : Sv) (cs : Array Value) : Prop := ∃ ca cc ta tc ka kc, cs = stC s ca cc ta tc ka kc ∧ QAt w s.req ca cc ta tc ka kc
theorem StepAt.on {w w' : World} {s : Sv} {cs : Array Value} (h : StepAt w s cs) (hb : Below w.heap.size w w') : StepAt w' s cs := by
  obtain ⟨ca, cc, ta, tc, ka, kc, h1, h2⟩ := h
  exact ⟨ca, cc, ta, tc, ka, kc, h1, h2.on hb⟩
theorem req_size (r : Qv) (ca ta ka : Option Addr) (cc tc kc : Nat) : (Try.prog.info? 28).map (·.size) = some (rqC r ca cc ta tc ka kc).size := by
  have h : (Try.prog.info? 28).map (·.size) = some 11 := by kernel_rfl
  exact h
theorem req_one (r : Qv) (ca ta ka : Option Addr) (cc tc kc : Nat) : (rqC r ca cc ta tc ka kc).all (·.oneCell') = true := by simp [rqC, Value.oneCell']
theorem step_one (s : Sv) (ca ta ka : Option Addr) (cc tc kc : Nat) : (stC s ca cc ta tc ka kc).all (·.oneCell') = true := by simp [stC, Value.oneCell']
def noS : Sv := ⟨noQ, ⟨#[]⟩, 0, 0, false, 0⟩
end Go.Proofs.Ytaafkefgpgoepaa
