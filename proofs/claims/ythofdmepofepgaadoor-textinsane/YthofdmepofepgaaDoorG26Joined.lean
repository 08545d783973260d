/- What the words of a line say, and the step that is made of it, as values. Conditions: none. Commands, requests and steps in memory, as they may be read. Conditions: none. A row that is stored into a block that was just made. Conditions: none. -/
import Derived.Test.YthofdmepofepgaaDoorG03Joined
import Derived.Test.YthofdmepofepgaaDoorG00Joined
import Derived.Test.YthofdmepofepgaaDoorByteKit
import Derived.Deep.MidRow
import Derived.Test.YthofdmepofepgaaDoorPartsF
namespace Go.Proofs.YthofdmepofepgaaDoor
/-- What the words of a line say: a request, or a fault; the size of a body, if one is told. -/
structure Sd where
  req : Qv
  fault : List UInt8
  size : Int
  sized : Bool
/-- What words may say: faults are short, a size is a number of 64 bits. -/
structure SdOk (s : Sd) : Prop where
  fault : s.fault.length ≤ 1000
  lo : 0 ≤ s.size
  hi : s.size < 18446744073709551616
def faultSd (s : Sd) : List UInt8 := if s.fault = [] ∧ s.sized = true ∧ 1000 < s.size then t_large else s.fault
def skipSd (s : Sd) : Int := if s.sized = true ∧ s.size ≤ 1073741824 then s.size + 2 else 0
def putSd (s : Sd) (v : List UInt8) : Qv := ⟨s.req.cmds.map fun c => { c with val := v }, s.req.form⟩
/-- A line's request, with its body out of what is behind it. -/
def finSd (s : Sd) (rest : List UInt8) (used : Int) : Sv :=
  if s.sized = false then ⟨s.req, ⟨#[]⟩, used, 0, false, 0⟩
  else if (bodyN rest s.size).2.2 = 3 then moreS
  else if (bodyN rest s.size).2.2 = 2 then { refuseS t_chunk (used + (bodyN rest s.size).2.1) with line := true }
  else ⟨putSd s (bodyN rest s.size).1, ⟨#[]⟩, used + (bodyN rest s.size).2.1, 0, false, 0⟩
def lineSd (s : Sd) (rest : List UInt8) (used : Int) : Sv := if faultSd s = [] then finSd s rest used else { refuseS (faultSd s) used with skip := skipSd s }
/-- The first bytes of a connection, if the words of its lines are read so. -/
def parseSd (rd : List (List UInt8) → Sd) (l : List UInt8) : Sv :=
  if (lineN l).2.2 = 3 then moreS
  else if (lineN l).2.2 = 4 then { refuseS t_long (lineN l).2.1 with line := (cutL l).isNone }
  else lineSd (rd (wordsL (lineN l).1)) (l.drop (lineN l).2.1.toNat) (lineN l).2.1
theorem faultSd_len {s : Sd} (h : SdOk s) : (faultSd s).length ≤ 1000 := by
  unfold faultSd
  split
  · decide
  · exact h.fault
theorem skipSd_no {s : Sd} (h : ¬ (s.sized = true ∧ s.size ≤ 1073741824)) : skipSd s = 0 := if_neg h
/-- A line without a fault has a body of at most 1000 bytes. -/
theorem faultSd_nil {s : Sd} (h : faultSd s = []) : s.fault = [] ∧ (s.sized = true → s.size ≤ 1000) := by
  unfold faultSd at h
  split at h
  · cases h
  · rename_i hn
    refine ⟨h, fun hs => ?_⟩
    rcases Int.lt_or_le 1000 s.size with h1 | h1
    · exact absurd ⟨h, hs, h1⟩ hn
    · exact h1
end Go.Proofs.YthofdmepofepgaaDoor

namespace Go.Proofs.YthofdmepofepgaaDoor
set_option linter.unusedVariables false
open Go.RowKit

def cmC (c : Cv) (a : Option Addr) (k : Nat) : Array Value := #[.int .i64 c.op, .string c.key, .slice a c.val.length k, .int .u32 c.fl, .int .i64 c.exp, .int .u64 c.cas, .int .u64 c.del, .int .u64 c.ini, .bool c.makes, .bool c.sets]
theorem cmd_size (c : Cv) (a : Option Addr) (k : Nat) : (Tryd.prog.info? 38).map (·.size) = some (cmC c a k).size := by
  have h : (Tryd.prog.info? 38).map (·.size) = some 10 := by kernel_rfl
  exact h
theorem cmd_one (c : Cv) (a : Option Addr) (k : Nat) : (cmC c a k).all (·.oneCell') = true := by simp [cmC, Value.oneCell']
/-- A row of texts that may be read. -/
structure Su (w : World) (a : Option Addr) (len cap : Nat) (xs : List ByteArray) : Prop where
  n : xs.length = len
  c : len ≤ cap
  m : cap ≤ maxLen
  at_ : len = 0 ∨ ∃ b off, a = some ⟨b, off, none⟩ ∧ b < w.heap.size ∧ ∀ (i : Nat) (x : ByteArray), xs[i]? = some x → w.cell? ⟨b, off + i, none⟩ = some (.string x)
/-- A row of commands that may be read, their values with them. -/
structure Cu (w : World) (a : Option Addr) (len cap : Nat) (cs : List Cv) : Prop where
  n : cs.length = len
  c : len ≤ cap
  m : cap ≤ maxLen
  at_ : len = 0 ∨ ∃ b off, a = some ⟨b, off, none⟩ ∧ b < w.heap.size ∧ ∀ (i : Nat) (c : Cv), cs[i]? = some c → ∃ va vc, w.rangeAt b (off + i * 10) (cmC c va vc).toList ∧ Bu w va c.val.length vc c.val
section
variable {w w' : World} {a : Option Addr} {len cap : Nat}
theorem Su.on {xs : List ByteArray} (h : Su w a len cap xs) (hb : Below w.heap.size w w') : Su w' a len cap xs := by
  refine ⟨h.n, h.c, h.m, ?_⟩
  rcases h.at_ with h0 | ⟨b, off, e, hl, hx⟩
  · exact .inl h0
  · exact .inr ⟨b, off, e, Nat.lt_of_lt_of_le hl hb.size, fun i x hi => (hb.cell (p := ⟨b, off + i, none⟩) hl).trans (hx i x hi)⟩
theorem Su.get {xs : List ByteArray} (h : Su w a len cap xs) {i : Nat} (hi : i < len) : ∃ b off, a = some ⟨b, off, none⟩ ∧ w.cell? ⟨b, off + i, none⟩ = some (.string (xs[i]'(by rw [h.n]; exact hi))) := by
  rcases h.at_ with h0 | ⟨b, off, e, hl, hx⟩
  · omega
  · exact ⟨b, off, e, hx i _ (List.getElem?_eq_getElem _)⟩
theorem Su.none_ (w : World) : Su w none 0 0 [] := ⟨rfl, Nat.le_refl _, Nat.zero_le _, .inl rfl⟩
theorem Su.own {n0 n : Nat} {v : Value} {xs : List ByteArray} (h : w.ownsRow n0 9 1 v n (xs.map Value.string)) : ∃ a c, v = .slice a n c ∧ Su w a n c xs := by
  obtain ⟨a, c, rfl⟩ := own_shape h
  have hl : xs.length = n := by have := h.1; simpa using this
  refine ⟨a, c, rfl, hl, (own_cap h).1, (own_cap h).2, ?_⟩
  by_cases h0 : n = 0
  · exact .inl h0
  · obtain ⟨g, cap, e⟩ := own_form h (by omega)
    cases e
    refine .inr ⟨g, 0, rfl, (own_at h rfl).2.1, fun i x hi => ?_⟩
    have hi' : i < n := by have := (List.getElem?_eq_some_iff.1 hi).1; omega
    rw [Nat.zero_add, h.cellAt i (by omega), List.getElem?_map, hi]
    rfl
theorem Cu.on {cs : List Cv} (h : Cu w a len cap cs) (hb : Below w.heap.size w w') : Cu w' a len cap cs := by
  refine ⟨h.n, h.c, h.m, ?_⟩
  rcases h.at_ with h0 | ⟨b, off, e, hl, hx⟩
  · exact .inl h0
  · refine .inr ⟨b, off, e, Nat.lt_of_lt_of_le hl hb.size, fun i c hi => ?_⟩
    obtain ⟨va, vc, h1, h2⟩ := hx i c hi
    exact ⟨va, vc, fun j v hv => (hb.cell (p := ⟨b, off + i * 10 + j, none⟩) hl).trans (h1 j v hv), h2.on hb⟩
theorem Cu.none_ (w : World) : Cu w none 0 0 [] := ⟨rfl, Nat.le_refl _, Nat.zero_le _, .inl rfl⟩
theorem Cu.get {cs : List Cv} (h : Cu w a len cap cs) {i : Nat} (hi : i < len) : ∃ b off, a = some ⟨b, off, none⟩ ∧ ∃ va vc, w.rangeAt b (off + i * 10) (cmC (cs[i]'(by rw [h.n]; exact hi)) va vc).toList ∧ Bu w va (cs[i]'(by rw [h.n]; exact hi)).val.length vc (cs[i]'(by rw [h.n]; exact hi)).val := by
  rcases h.at_ with h0 | ⟨b, off, e, hl, hx⟩
  · omega
  · exact ⟨b, off, e, hx i _ (List.getElem?_eq_getElem _)⟩
end
/-- A request, and a step, as cells. -/
def fmC (f : Fv) (ta : Option Addr) (tc : Nat) (ka : Option Addr) (kc : Nat) : Array Value := #[.int .i64 f.dia, .string f.verb, .int .i64 f.code, .int .u32 f.opq, .bool f.quiet, .bool f.wcas, .string f.flags, .slice ta f.toks.length tc, .slice ka f.keys.length kc, .bool f.b64]
def rqC (r : Qv) (ca : Option Addr) (cc : Nat) (ta : Option Addr) (tc : Nat) (ka : Option Addr) (kc : Nat) : Array Value :=
  #[.slice ca r.cmds.length cc, .int .i64 r.form.dia, .string r.form.verb, .int .i64 r.form.code, .int .u32 r.form.opq, .bool r.form.quiet, .bool r.form.wcas, .string r.form.flags, .slice ta r.form.toks.length tc, .slice ka r.form.keys.length kc, .bool r.form.b64]
def stC (s : Sv) (ca : Option Addr) (cc : Nat) (ta : Option Addr) (tc : Nat) (ka : Option Addr) (kc : Nat) : Array Value :=
  #[.slice ca s.req.cmds.length cc, .int .i64 s.req.form.dia, .string s.req.form.verb, .int .i64 s.req.form.code, .int .u32 s.req.form.opq, .bool s.req.form.quiet, .bool s.req.form.wcas, .string s.req.form.flags, .slice ta s.req.form.toks.length tc, .slice ka s.req.form.keys.length kc, .bool s.req.form.b64,
    .string s.reply, .int .i64 s.used, .int .i64 s.skip, .bool s.line, .int .i64 s.e]
/-- What a request's rows hold. -/
structure QAt (w : World) (r : Qv) (ca : Option Addr) (cc : Nat) (ta : Option Addr) (tc : Nat) (ka : Option Addr) (kc : Nat) : Prop where
  cmds : Cu w ca r.cmds.length cc r.cmds
  toks : Su w ta r.form.toks.length tc r.form.toks
  keys : Su w ka r.form.keys.length kc r.form.keys
theorem QAt.on {w w' : World} {r : Qv} {ca ta ka : Option Addr} {cc tc kc : Nat} (h : QAt w r ca cc ta tc ka kc) (hb : Below w.heap.size w w') : QAt w' r ca cc ta tc ka kc := ⟨h.cmds.on hb, h.toks.on hb, h.keys.on hb⟩
theorem QAt.none_ (w : World) : QAt w noQ none 0 none 0 none 0 := ⟨Cu.none_ w, Su.none_ w, Su.none_ w⟩
/-- A step that was answered. -/
def StepAt (w : World) (s : Sv) (cs : Array Value) : Prop := ∃ ca cc ta tc ka kc, cs = stC s ca cc ta tc ka kc ∧ QAt w s.req ca cc ta tc ka kc
theorem StepAt.on {w w' : World} {s : Sv} {cs : Array Value} (h : StepAt w s cs) (hb : Below w.heap.size w w') : StepAt w' s cs := by
  obtain ⟨ca, cc, ta, tc, ka, kc, h1, h2⟩ := h
  exact ⟨ca, cc, ta, tc, ka, kc, h1, h2.on hb⟩
theorem req_size (r : Qv) (ca ta ka : Option Addr) (cc tc kc : Nat) : (Tryd.prog.info? 30).map (·.size) = some (rqC r ca cc ta tc ka kc).size := by
  have h : (Tryd.prog.info? 30).map (·.size) = some 11 := by kernel_rfl
  exact h
theorem req_one (r : Qv) (ca ta ka : Option Addr) (cc tc kc : Nat) : (rqC r ca cc ta tc ka kc).all (·.oneCell') = true := by simp [rqC, Value.oneCell']
theorem step_size (s : Sv) (ca ta ka : Option Addr) (cc tc kc : Nat) : (Tryd.prog.info? 33).map (·.size) = some (stC s ca cc ta tc ka kc).size := by
  have h : (Tryd.prog.info? 33).map (·.size) = some 16 := by kernel_rfl
  exact h
theorem step_one (s : Sv) (ca ta ka : Option Addr) (cc tc kc : Nat) : (stC s ca cc ta tc ka kc).all (·.oneCell') = true := by simp [stC, Value.oneCell']
def noS : Sv := ⟨noQ, ⟨#[]⟩, 0, 0, false, 0⟩
end Go.Proofs.YthofdmepofepgaaDoor

namespace Go.Proofs.YthofdmepofepgaaDoor
open Go.RowKit

theorem setRow_alloc (W : World) (old cs : Array Value) (t : TypeId) : (W.alloc (.cells old t)).setRow W.heap.size cs = W.alloc (.cells cs t) := by
  have e : (W.heap.push (.cells old t)).modify W.heap.size (fun | .cells _ elem frozen => .cells cs elem frozen | o => o) = W.heap.push (.cells cs t) := by
    apply Array.ext
    · simp
    · intro i h1 h2
      rw [Array.getElem_modify]
      by_cases hi : W.heap.size = i
      · subst hi
        simp
      · have h3 : i < W.heap.size := by simp at h2; omega
        simp [hi, Array.getElem_push_lt h3]
  exact congrArg (fun h => ({ W with heap := h } : World)) e
theorem setRow_alloc2 (w : World) (o : Obj) (old cs : Array Value) (t : TypeId) : ((w.alloc o).alloc (.cells old t)).setRow (w.heap.size + 1) cs = (w.alloc o).alloc (.cells cs t) := by
  have := setRow_alloc (w.alloc o) old cs t
  rwa [World.size_alloc] at this
end Go.Proofs.YthofdmepofepgaaDoor
