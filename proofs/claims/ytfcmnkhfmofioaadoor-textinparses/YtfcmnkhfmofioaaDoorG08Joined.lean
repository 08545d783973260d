/- How package textin reads a line that asks for no answer. Conditions: the listed variables hold what the program's text lays; at most 5000 words of at most 140737488351232 bytes. What the words of a line say, and the step that is made of it, as values. Conditions: none. Commands, requests and steps in memory, as they may be read. Conditions: none. A row that is stored into a block that was just made. Conditions: none. What the words of a line say, in memory; the step that is made of it. Conditions: none. How package textin reads a line's words, whatever they are, and what it refuses. Conditions: the listed variables hold what the program's text lays; at most 5000 words of at most 140737488351232 bytes. The request that a draft of package textin makes. Conditions: at most 5000 keys. -/
import Derived.Test.YtfcmnkhfmofioaaDoorG07Joined
import Derived.Test.YtfcmnkhfmofioaaDoorG02Joined
import Derived.Test.YtfcmnkhfmofioaaDoorG00Joined
import Derived.Deep.MidRow
import Derived.Test.YtfcmnkhfmofioaaDoorG03Joined
namespace Go.Proofs.YtfcmnkhfmofioaaDoor
set_option linter.unusedVariables false
open Go.RowKit

section
variable {wB w : World} {D : Nat} {x : List UInt8} {a : Option Addr} {len cap : Nat} {ws : List (List UInt8)}
set_option maxRecDepth 100000 in
set_option maxHeartbeats 4000000 in
theorem read_quiet (hL : Laid wB) (H : Dr wB w.heap.size D w zeroD) (hW : Wu (fun b => b ≠ D) w a len cap (x :: ws)) (hl : len ≤ 5000) (hb : ∀ y ∈ ws, y.length ≤ 140737488351232) {op : Int} (hop : opN x = some op) {ks : List Nat} (hks : ks = partsN (begun x).op (begun x).verb ws) (hkl : ks.length ≤ 6000) (hq : quietN (begun x).op ws ks.length = true) (hne : ws.length = ks.length + 1) : Calls Tryd.prog 30 #[.pointer (some ⟨D, 0, none⟩), .slice a len cap] w fun e w' => ReadsEnd wB D w (runR ks (ws.take ks.length) { begun x with quiet := true } []) e w' := by
  have hn := hW.n
  rw [List.length_cons] at hn
  have hp : ¬ (len : Int) = 0 := by omega
  have hp2 : (0 : Int) < (len : Int) := by omega
  obtain ⟨b, off, rfl, c0⟩ := hW.get (i := 0) (by omega)
  simp only [Nat.add_zero, List.getElem_cons_zero] at c0
  obtain ⟨a1, hs, hT⟩ := hW.tail (by omega)
  rw [List.tail_cons] at hT
  obtain ⟨m, hm⟩ : ∃ m, ws.length = m := ⟨_, rfl⟩
  obtain rfl : len = m + 1 := by omega
  simp only [Nat.add_sub_cancel] at hs hT
  obtain ⟨c1, hc1⟩ : ∃ c1, cap - 1 = c1 := ⟨_, rfl⟩
  rw [hc1] at hs hT
  have HB := hide (begin_any H x)
  rw [hop] at HB
  have HT := hide (fun (w1 : World) (G1 : GD w.heap.size D w w1) => hT.on (w' := w1) fun b hb hl => G1.block b hl (by omega))
  have HP := hide (fun (w1 : World) (G1 : GD w.heap.size D w w1) (K1 : Dr wB w.heap.size D w1 (begun x)) => parts_any (K1.nil_ rfl) (HT.out w1 G1) (by omega) (by show opN x = some ((opN x).getD 0); rw [hop]; rfl))
  have hks2 : Hid (partsN (begun x).op (begun x).verb ws = ks) := hks.symm
  replace hq := hide hq
  clear H hW hc1 hn hop hks hl
  have hs2 : ∀ W : World, (Instr.sliceAt 27 (.slice a1 (ks.length + 1) c1) none (some (.int .i64 (ks.length : Int))) none).run Tryd.prog W = .ok (.slice a1 ks.length c1) W := fun W => by
    have hcc := hT.c
    have h1 : (ks.length : Int) ≤ (c1 : Int) := by omega
    cases a1 <;> go_simp
  obtain rfl : m = ks.length + 1 := by omega
  obtain ⟨ws1, hws⟩ : ∃ ws1, ws1 = ws.take ks.length := ⟨_, rfl⟩
  obtain ⟨d1, hd1⟩ : ∃ d1, d1 = { begun x with quiet := true } := ⟨_, rfl⟩
  have hd1k : d1.keys = [] := by rw [hd1]; rfl
  have WL : Hid (ws1.length = ks.length) := by rw [hws, List.length_take]; show min _ _ = _; omega
  have WB : Hid (∀ y ∈ ws1, y.length ≤ 140737488351232) := by rw [hws]; exact fun y hy => hb y (List.mem_of_mem_take hy)
  rw [← hws, ← hd1]
  replace hws := hide hws
  replace hd1 := hide hd1
  have HNE := hide hne
  clear hne hb hT
  go_enter Tryd.func30, Tryd.ntmps30
  go_wp2_with (first
      | (go_at_call 45; refine HB.out.mono ?_; rintro e w1 ⟨rfl, K1, G1⟩; have P1 := hide (HP.out w1 G1 K1); rw [hks2.out] at P1; replace K1 := hide K1; replace G1 := hide G1)
      | (go_at_call 46; refine P1.out.mono ?_; rintro e w2 ⟨v, xs, rfl, o2, r2, g2⟩; obtain ⟨pa, pc, rfl⟩ := own_shape o2; have K2 := K1.out.on g2; have W2 := (HT.out w1 G1.out).on (w' := w2) fun b hb hl => g2.block b hl (by simp); have I2 := hide (isQuiet_any (K2.nil_ rfl) W2 ks.length (by omega)); rw [hq.out] at I2; have q2 := dr_quiet (K2.nil_ rfl); have q3 := dr_frozen (K2.nil_ rfl) 4; have K3 := hide ((K2.lift (n1 := w2.heap.size) rfl (Nat.lt_of_lt_of_le K1.out.hi (Nat.le_trans G1.out.size g2.size)) (Nat.le_refl _)).set (d' := { begun x with quiet := true }) (K2.nil_ rfl) (World.ownsRow_nil _ _ _ _) 4 (.bool true) rfl rfl (set_quiet _ _ _ _ _ _)); replace K2 := hide K2; replace W2 := hide W2; replace o2 := hide o2; replace r2 := hide r2; replace g2 := hide g2)
      | (go_at_call 47; refine I2.out.mono ?_; rintro e w3 ⟨rfl, rfl⟩))
  have L3 : Hid (Dr wB w2.heap.size D (w2.setCell ⟨D, 4, none⟩ (.bool true)) d1) := by rw [hd1.out]; exact K3.out.1
  have LG : Hid (GD w2.heap.size D w2 (w2.setCell ⟨D, 4, none⟩ (.bool true))) := K3.out.2
  have L2 : Hid (Wu (fun b => b ≠ D) w2 a1 ks.length c1 ws1) := by rw [hws.out]; exact W2.out.front (by omega)
  have LW : Hid (Gr (fun k => k = D) w w2) := (gd_gr G1.out (Nat.le_refl _)).trans ⟨g2.out.os, g2.out.tape, g2.out.output, g2.out.size, fun b hb hn => g2.out.block b hb (by simp)⟩
  clear q2 q3 K3
  generalize w2.setCell ⟨D, 4, none⟩ (.bool true) = W3 at *
  go_loopw [6, 45] (fun fv i wr => ∃ (k : Nat) (di : Dv) (f : List UInt8), k ≤ ks.length ∧ i = .int .i64 k ∧ fv = .string (mkB f) ∧ di.keys.length ≤ k ∧ Hid (Dr wB w2.heap.size D wr di) ∧ Hid (GD w2.heap.size D w2 wr) ∧ Hid (runR (ks.drop k) (ws1.drop k) di f = runR ks ws1 d1 [])) (fun _ i _ => ks.length - (intOf i).toNat)
  case atStart => exact ⟨0, d1, [], Nat.zero_le _, rfl, rfl, by rw [hd1k]; exact Nat.le_refl _, L3.out, LG.out, rfl⟩
  case round =>
    obtain ⟨k, di, f, hk, rfl, rfl, hdk, HD, HG, HR⟩ := hrel
    by_cases hlt : k < ks.length
    · have hki : (k : Int) < (ks.length : Int) := by omega
      have e1 : wrap64 ((k : Int) + 1) = (k : Int) + 1 := by unfold wrap64; omega
      have hwk : k < ws1.length := by rw [WL.out]; exact hlt
      have U := L2.out.on (w' := wr) fun b hb hl => HG.out.block b hl (by omega)
      obtain ⟨wb, wo, ha2, cw⟩ := U.get (i := k) hlt
      obtain ⟨pb, pc', ep⟩ := own_form o2.out (by omega : 0 < ks.length)
      cases ep
      obtain ⟨v, hv⟩ : ∃ v, xs[k]? = some v := ⟨_, List.getElem?_eq_getElem (by rw [r2.out.1]; exact hlt)⟩
      have pb1 : w1.heap.size ≤ pb ∧ pb < w2.heap.size := ⟨(own_at o2.out rfl).1, (own_at o2.out rfl).2.1⟩
      have hDlo := K1.out.hi
      have hG1 := G1.out.size
      have cp : wr.cell? ⟨pb, k, none⟩ = some v := (World.cell?_of_block (a := ⟨pb, k, none⟩) (HG.out.block pb pb1.2 (by omega))).trans ((o2.out.cellAt k (by have := o2.out.1; rw [r2.out.1] at this; omega)).trans hv)
      have rd := (r2.out.2 k _ v (List.getElem?_eq_getElem hlt) hv).at_ (Nat.le_refl _) HG.out
      have cr := rd.calls (x := ws1[k]) hL HD.out (by omega) (WB.out _ (List.getElem_mem hwk))
      have hst := hide (runR_step hlt hwk di f)
      have hkn := readW_keys ks[k] di ws1[k]
      generalize ks[k] = kd at *
      generalize ws1[k] = xk at *
      have hdk2 : (readW kd di xk).1.keys.length ≤ k + 1 := Nat.le_trans hkn (by omega)
      obtain ⟨r, hr⟩ : ∃ r, readW kd di xk = r := ⟨_, rfl⟩
      unfold CallsRd at cr
      rw [hr] at hst hdk2 cr
      have HR2 : Hid (runR (ks.drop (k + 1)) (ws1.drop (k + 1)) r.1 (if f = [] then r.2 else f) = runR ks ws1 d1 []) := hst.out.symm.trans HR.out
      subst ha2
      clear hv rd hkn hr U pb1 hDlo hG1 hst HR hwk hdk HD
      rcases cr with ⟨rfl, cc⟩ | ⟨rfl, cc⟩ | ⟨g, fb, p, rfl, cc⟩
      · replace cc := hide cc
        go_wp2_with (first
          | (go_at_call 57; refine cc.out.mono ?_; rintro e w4 ⟨rfl, K4, G4⟩; have t4 := two_new (e := 9) w4 (.string (mkB f)) (.string (mkB r.2)); replace K4 := hide (K4.on (World.grownBy_alloc w4 (.cells #[.string (mkB f), .string (mkB r.2)] 9) none)); replace G4 := hide ((HG.out.trans G4).trans (GD.of (World.grownBy_alloc w4 (.cells #[.string (mkB f), .string (mkB r.2)] 9) none))); replace t4 := hide t4)
          | (go_at_call 48; refine (or_any t4.out.1 t4.out.2).mono ?_; rintro e w5 ⟨rfl, rfl⟩))
        go_roundw
        case rel => exact ⟨k + 1, r.1, _, by omega, by go_num, rfl, hdk2, K4.out, G4.out, HR2⟩
        case measure => simp [intOf]; omega
      · replace cc := hide cc
        go_wp2_with (first
          | (go_at_call 55; refine cc.out.mono ?_; rintro e w4 ⟨rfl, K4, G4⟩; have t4 := two_new (e := 9) w4 (.string (mkB f)) (.string (mkB r.2)); replace K4 := hide (K4.on (World.grownBy_alloc w4 (.cells #[.string (mkB f), .string (mkB r.2)] 9) none)); replace G4 := hide ((HG.out.trans G4).trans (GD.of (World.grownBy_alloc w4 (.cells #[.string (mkB f), .string (mkB r.2)] 9) none))); replace t4 := hide t4)
          | (go_at_call 48; refine (or_any t4.out.1 t4.out.2).mono ?_; rintro e w5 ⟨rfl, rfl⟩))
        go_roundw
        case rel => exact ⟨k + 1, r.1, _, by omega, by go_num, rfl, hdk2, K4.out, G4.out, HR2⟩
        case measure => simp [intOf]; omega
      · replace cc := hide cc
        go_wp2_with (first
          | (go_at_call 66; refine cc.out.mono ?_; rintro e w4 ⟨rfl, K4, G4⟩; have t4 := two_new (e := 9) w4 (.string (mkB f)) (.string (mkB r.2)); replace K4 := hide (K4.on (World.grownBy_alloc w4 (.cells #[.string (mkB f), .string (mkB r.2)] 9) none)); replace G4 := hide ((HG.out.trans G4).trans (GD.of (World.grownBy_alloc w4 (.cells #[.string (mkB f), .string (mkB r.2)] 9) none))); replace t4 := hide t4)
          | (go_at_call 48; refine (or_any t4.out.1 t4.out.2).mono ?_; rintro e w5 ⟨rfl, rfl⟩))
        go_roundw
        case rel => exact ⟨k + 1, r.1, _, by omega, by go_num, rfl, hdk2, K4.out, G4.out, HR2⟩
        case measure => simp [intOf]; omega
    · obtain rfl : k = ks.length := by omega
      have hki : ¬ (ks.length : Int) < (ks.length : Int) := by omega
      have hR := HR.out
      rw [runR_end (Nat.le_refl _)] at hR
      have HF : Hid (runR ks ws1 d1 [] = (di, f)) := hR.symm
      have HDn := hide (show ReadsOk wB D w wr di from ⟨⟨_, HD.out⟩, gd_gr2 LW.out (HG.out)⟩)
      clear hR HR HD HG hlt hk hdk
      go_wp2
      go_ret
      rw [HF.out]
      exact ⟨rfl, HDn.out.1, HDn.out.2⟩
end
end Go.Proofs.YtfcmnkhfmofioaaDoor

namespace Go.Proofs.YtfcmnkhfmofioaaDoor
/-- What the words of a line say: a request, or a fault; the size of a body, if one is told. -/
structure Sd where
  req : Qv
  fault : List UInt8
  size : Int
  sized : Bool
/-- What words may say: faults are short, a size is a number of 64 bits. -/
structure SdOk (s : Sd) : Prop where
  fault : s.fault.length ≤ 1000
  lo : 0 ≤ s.size
  hi : s.size < 18446744073709551616
def faultSd (s : Sd) : List UInt8 := if s.fault = [] ∧ s.sized = true ∧ 1000 < s.size then t_large else s.fault
def skipSd (s : Sd) : Int := if s.sized = true ∧ s.size ≤ 1073741824 then s.size + 2 else 0
def putSd (s : Sd) (v : List UInt8) : Qv := ⟨s.req.cmds.map fun c => { c with val := v }, s.req.form⟩
/-- A line's request, with its body out of what is behind it. -/
def finSd (s : Sd) (rest : List UInt8) (used : Int) : Sv :=
  if s.sized = false then ⟨s.req, ⟨#[]⟩, used, 0, false, 0⟩
  else if (bodyN rest s.size).2.2 = 3 then moreS
  else if (bodyN rest s.size).2.2 = 2 then { refuseS t_chunk (used + (bodyN rest s.size).2.1) with line := true }
  else ⟨putSd s (bodyN rest s.size).1, ⟨#[]⟩, used + (bodyN rest s.size).2.1, 0, false, 0⟩
def lineSd (s : Sd) (rest : List UInt8) (used : Int) : Sv := if faultSd s = [] then finSd s rest used else { refuseS (faultSd s) used with skip := skipSd s }
/-- The first bytes of a connection, if the words of its lines are read so. -/
def parseSd (rd : List (List UInt8) → Sd) (l : List UInt8) : Sv :=
  if (lineN l).2.2 = 3 then moreS
  else if (lineN l).2.2 = 4 then { refuseS t_long (lineN l).2.1 with line := (cutL l).isNone }
  else lineSd (rd (wordsL (lineN l).1)) (l.drop (lineN l).2.1.toNat) (lineN l).2.1
theorem faultSd_len {s : Sd} (h : SdOk s) : (faultSd s).length ≤ 1000 := by
  unfold faultSd
  split
  · decide
  · exact h.fault
theorem skipSd_no {s : Sd} (h : ¬ (s.sized = true ∧ s.size ≤ 1073741824)) : skipSd s = 0 := if_neg h
/-- A line without a fault has a body of at most 1000 bytes. -/
theorem faultSd_nil {s : Sd} (h : faultSd s = []) : s.fault = [] ∧ (s.sized = true → s.size ≤ 1000) := by
  unfold faultSd at h
  split at h
  · cases h
  · rename_i hn
    refine ⟨h, fun hs => ?_⟩
    rcases Int.lt_or_le 1000 s.size with h1 | h1
    · exact absurd ⟨h, hs, h1⟩ hn
    · exact h1
end Go.Proofs.YtfcmnkhfmofioaaDoor

namespace Go.Proofs.YtfcmnkhfmofioaaDoor
set_option linter.unusedVariables false
open Go.RowKit

def cmC (c : Cv) (a : Option Addr) (k : Nat) : Array Value := #[.int .i64 c.op, .string c.key, .slice a c.val.length k, .int .u32 c.fl, .int .i64 c.exp, .int .u64 c.cas, .int .u64 c.del, .int .u64 c.ini, .bool c.makes, .bool c.sets]
theorem cmd_size (c : Cv) (a : Option Addr) (k : Nat) : (Tryd.prog.info? 40).map (·.size) = some (cmC c a k).size := by
  have h : (Tryd.prog.info? 40).map (·.size) = some 10 := by kernel_rfl
  exact h
theorem cmd_one (c : Cv) (a : Option Addr) (k : Nat) : (cmC c a k).all (·.oneCell') = true := by simp [cmC, Value.oneCell']
/-- A row of texts that may be read. -/
structure Su (w : World) (a : Option Addr) (len cap : Nat) (xs : List ByteArray) : Prop where
  n : xs.length = len
  c : len ≤ cap
  m : cap ≤ maxLen
  at_ : len = 0 ∨ ∃ b off, a = some ⟨b, off, none⟩ ∧ b < w.heap.size ∧ ∀ (i : Nat) (x : ByteArray), xs[i]? = some x → w.cell? ⟨b, off + i, none⟩ = some (.string x)
/-- A row of commands that may be read, their values with them. -/
structure Cu (w : World) (a : Option Addr) (len cap : Nat) (cs : List Cv) : Prop where
  n : cs.length = len
  c : len ≤ cap
  m : cap ≤ maxLen
  at_ : len = 0 ∨ ∃ b off, a = some ⟨b, off, none⟩ ∧ b < w.heap.size ∧ ∀ (i : Nat) (c : Cv), cs[i]? = some c → ∃ va vc, w.rangeAt b (off + i * 10) (cmC c va vc).toList ∧ Bu w va c.val.length vc c.val
section
variable {w w' : World} {a : Option Addr} {len cap : Nat}
theorem Su.on {xs : List ByteArray} (h : Su w a len cap xs) (hb : Below w.heap.size w w') : Su w' a len cap xs := by
  refine ⟨h.n, h.c, h.m, ?_⟩
  rcases h.at_ with h0 | ⟨b, off, e, hl, hx⟩
  · exact .inl h0
  · exact .inr ⟨b, off, e, Nat.lt_of_lt_of_le hl hb.size, fun i x hi => (hb.cell (p := ⟨b, off + i, none⟩) hl).trans (hx i x hi)⟩
theorem Su.get {xs : List ByteArray} (h : Su w a len cap xs) {i : Nat} (hi : i < len) : ∃ b off, a = some ⟨b, off, none⟩ ∧ w.cell? ⟨b, off + i, none⟩ = some (.string (xs[i]'(by rw [h.n]; exact hi))) := by
  rcases h.at_ with h0 | ⟨b, off, e, hl, hx⟩
  · omega
  · exact ⟨b, off, e, hx i _ (List.getElem?_eq_getElem _)⟩
theorem Su.none_ (w : World) : Su w none 0 0 [] := ⟨rfl, Nat.le_refl _, Nat.zero_le _, .inl rfl⟩
theorem Su.own {n0 n : Nat} {v : Value} {xs : List ByteArray} (h : w.ownsRow n0 9 1 v n (xs.map Value.string)) : ∃ a c, v = .slice a n c ∧ Su w a n c xs := by
  obtain ⟨a, c, rfl⟩ := own_shape h
  have hl : xs.length = n := by have := h.1; simpa using this
  refine ⟨a, c, rfl, hl, (own_cap h).1, (own_cap h).2, ?_⟩
  by_cases h0 : n = 0
  · exact .inl h0
  · obtain ⟨g, cap, e⟩ := own_form h (by omega)
    cases e
    refine .inr ⟨g, 0, rfl, (own_at h rfl).2.1, fun i x hi => ?_⟩
    have hi' : i < n := by have := (List.getElem?_eq_some_iff.1 hi).1; omega
    rw [Nat.zero_add, h.cellAt i (by omega), List.getElem?_map, hi]
    rfl
theorem Cu.on {cs : List Cv} (h : Cu w a len cap cs) (hb : Below w.heap.size w w') : Cu w' a len cap cs := by
  refine ⟨h.n, h.c, h.m, ?_⟩
  rcases h.at_ with h0 | ⟨b, off, e, hl, hx⟩
  · exact .inl h0
  · refine .inr ⟨b, off, e, Nat.lt_of_lt_of_le hl hb.size, fun i c hi => ?_⟩
    obtain ⟨va, vc, h1, h2⟩ := hx i c hi
    exact ⟨va, vc, fun j v hv => (hb.cell (p := ⟨b, off + i * 10 + j, none⟩) hl).trans (h1 j v hv), h2.on hb⟩
theorem Cu.none_ (w : World) : Cu w none 0 0 [] := ⟨rfl, Nat.le_refl _, Nat.zero_le _, .inl rfl⟩
theorem Cu.get {cs : List Cv} (h : Cu w a len cap cs) {i : Nat} (hi : i < len) : ∃ b off, a = some ⟨b, off, none⟩ ∧ ∃ va vc, w.rangeAt b (off + i * 10) (cmC (cs[i]'(by rw [h.n]; exact hi)) va vc).toList ∧ Bu w va (cs[i]'(by rw [h.n]; exact hi)).val.length vc (cs[i]'(by rw [h.n]; exact hi)).val := by
  rcases h.at_ with h0 | ⟨b, off, e, hl, hx⟩
  · omega
  · exact ⟨b, off, e, hx i _ (List.getElem?_eq_getElem _)⟩
end
/-- A request, and a step, as cells. -/
def fmC (f : Fv) (ta : Option Addr) (tc : Nat) (ka : Option Addr) (kc : Nat) : Array Value := #[.int .i64 f.dia, .string f.verb, .int .i64 f.code, .int .u32 f.opq, .bool f.quiet, .bool f.wcas, .string f.flags, .slice ta f.toks.length tc, .slice ka f.keys.length kc, .bool f.b64]
def rqC (r : Qv) (ca : Option Addr) (cc : Nat) (ta : Option Addr) (tc : Nat) (ka : Option Addr) (kc : Nat) : Array Value :=
  #[.slice ca r.cmds.length cc, .int .i64 r.form.dia, .string r.form.verb, .int .i64 r.form.code, .int .u32 r.form.opq, .bool r.form.quiet, .bool r.form.wcas, .string r.form.flags, .slice ta r.form.toks.length tc, .slice ka r.form.keys.length kc, .bool r.form.b64]
def stC (s : Sv) (ca : Option Addr) (cc : Nat) (ta : Option Addr) (tc : Nat) (ka : Option Addr) (kc : Nat) : Array Value :=
  #[.slice ca s.req.cmds.length cc, .int .i64 s.req.form.dia, .string s.req.form.verb, .int .i64 s.req.form.code, .int .u32 s.req.form.opq, .bool s.req.form.quiet, .bool s.req.form.wcas, .string s.req.form.flags, .slice ta s.req.form.toks.length tc, .slice ka s.req.form.keys.length kc, .bool s.req.form.b64,
    .string s.reply, .int .i64 s.used, .int .i64 s.skip, .bool s.line, .int .i64 s.e]
/-- What a request's rows hold. -/
structure QAt (w : World) (r : Qv) (ca : Option Addr) (cc : Nat) (ta : Option Addr) (tc : Nat) (ka : Option Addr) (kc : Nat) : Prop where
  cmds : Cu w ca r.cmds.length cc r.cmds
  toks : Su w ta r.form.toks.length tc r.form.toks
  keys : Su w ka r.form.keys.length kc r.form.keys
theorem QAt.on {w w' : World} {r : Qv} {ca ta ka : Option Addr} {cc tc kc : Nat} (h : QAt w r ca cc ta tc ka kc) (hb : Below w.heap.size w w') : QAt w' r ca cc ta tc ka kc := ⟨h.cmds.on hb, h.toks.on hb, h.keys.on hb⟩
theorem QAt.none_ (w : World) : QAt w noQ none 0 none 0 none 0 := ⟨Cu.none_ w, Su.none_ w, Su.none_ w⟩
/-- A step that was answered. -/
def StepAt (w : World) (s : Sv) (cs : Array Value) : Prop := ∃ ca cc ta tc ka kc, cs = stC s ca cc ta tc ka kc ∧ QAt w s.req ca cc ta tc ka kc
theorem StepAt.on {w w' : World} {s : Sv} {cs : Array Value} (h : StepAt w s cs) (hb : Below w.heap.size w w') : StepAt w' s cs := by
  obtain ⟨ca, cc, ta, tc, ka, kc, h1, h2⟩ := h
  exact ⟨ca, cc, ta, tc, ka, kc, h1, h2.on hb⟩
theorem req_size (r : Qv) (ca ta ka : Option Addr) (cc tc kc : Nat) : (Tryd.prog.info? 31).map (·.size) = some (rqC r ca cc ta tc ka kc).size := by
  have h : (Tryd.prog.info? 31).map (·.size) = some 11 := by kernel_rfl
  exact h
theorem req_one (r : Qv) (ca ta ka : Option Addr) (cc tc kc : Nat) : (rqC r ca cc ta tc ka kc).all (·.oneCell') = true := by simp [rqC, Value.oneCell']
theorem step_size (s : Sv) (ca ta ka : Option Addr) (cc tc kc : Nat) : (Tryd.prog.info? 34).map (·.size) = some (stC s ca cc ta tc ka kc).size := by
  have h : (Tryd.prog.info? 34).map (·.size) = some 16 := by kernel_rfl
  exact h
theorem step_one (s : Sv) (ca ta ka : Option Addr) (cc tc kc : Nat) : (stC s ca cc ta tc ka kc).all (·.oneCell') = true := by simp [stC, Value.oneCell']
def noS : Sv := ⟨noQ, ⟨#[]⟩, 0, 0, false, 0⟩
end Go.Proofs.YtfcmnkhfmofioaaDoor

namespace Go.Proofs.YtfcmnkhfmofioaaDoor
open Go.RowKit

theorem setRow_alloc (W : World) (old cs : Array Value) (t : TypeId) : (W.alloc (.cells old t)).setRow W.heap.size cs = W.alloc (.cells cs t) := by
  have e : (W.heap.push (.cells old t)).modify W.heap.size (fun | .cells _ elem frozen => .cells cs elem frozen | o => o) = W.heap.push (.cells cs t) := by
    apply Array.ext
    · simp
    · intro i h1 h2
      rw [Array.getElem_modify]
      by_cases hi : W.heap.size = i
      · subst hi
        simp
      · have h3 : i < W.heap.size := by simp at h2; omega
        simp [hi, Array.getElem_push_lt h3]
  exact congrArg (fun h => ({ W with heap := h } : World)) e
theorem setRow_alloc2 (w : World) (o : Obj) (old cs : Array Value) (t : TypeId) : ((w.alloc o).alloc (.cells old t)).setRow (w.heap.size + 1) cs = (w.alloc o).alloc (.cells cs t) := by
  have := setRow_alloc (w.alloc o) old cs t
  rwa [World.size_alloc] at this
end Go.Proofs.YtfcmnkhfmofioaaDoor

namespace Go.Proofs.YtfcmnkhfmofioaaDoor
set_option linter.unusedVariables false
open Go.RowKit

/-- What the words say, as cells. -/
def sdC (s : Sd) (ca : Option Addr) (cc : Nat) (ta : Option Addr) (tc : Nat) (ka : Option Addr) (kc : Nat) : Array Value :=
  #[.slice ca s.req.cmds.length cc, .int .i64 s.req.form.dia, .string s.req.form.verb, .int .i64 s.req.form.code, .int .u32 s.req.form.opq, .bool s.req.form.quiet, .bool s.req.form.wcas, .string s.req.form.flags, .slice ta s.req.form.toks.length tc, .slice ka s.req.form.keys.length kc, .bool s.req.form.b64,
    .string (mkB s.fault), .int .u64 s.size, .bool s.sized]
theorem said_size (s : Sd) (ca ta ka : Option Addr) (cc tc kc : Nat) : (Tryd.prog.info? 57).map (·.size) = some (sdC s ca cc ta tc ka kc).size := by
  have h : (Tryd.prog.info? 57).map (·.size) = some 14 := by kernel_rfl
  exact h
theorem said_one (s : Sd) (ca ta ka : Option Addr) (cc tc kc : Nat) : (sdC s ca cc ta tc ka kc).all (·.oneCell') = true := by simp [sdC, Value.oneCell']
/-- The rows of what the words say: they are new from block n0 on; where a body is told, there is one command. -/
structure SdAt (n0 : Nat) (w : World) (s : Sd) (ca : Option Addr) (cc : Nat) (ta : Option Addr) (tc : Nat) (ka : Option Addr) (kc : Nat) : Prop where
  q : ∀ W' : World, (∀ k, n0 ≤ k → k < w.heap.size → W'.heap[k]? = w.heap[k]?) → w.heap.size ≤ W'.heap.size → QAt W' s.req ca cc ta tc ka kc
  one : s.sized = true → ∃ c va vc, s.req.cmds = [c] ∧ w.ownsRow n0 40 10 (.slice ca 1 cc) 1 (cmC c va vc).toList
  su : ∀ W' : World, (∀ k, n0 ≤ k → k < w.heap.size → (Value.slice ca 1 cc).ownBlock ≠ some k → W'.heap[k]? = w.heap[k]?) → w.heap.size ≤ W'.heap.size → Su W' ta s.req.form.toks.length tc s.req.form.toks ∧ Su W' ka s.req.form.keys.length kc s.req.form.keys
/-- What a function that reads a line's words does. -/
def SaidEnd (s : Sd) (w : World) (e : Ending) (w' : World) : Prop := ∃ ca cc ta tc ka kc, e = .returned (.agg (sdC s ca cc ta tc ka kc)) ∧ SdAt w.heap.size w' s ca cc ta tc ka kc ∧ w.grownBy w' none
theorem SdAt.on {n0 : Nat} {w w' : World} {s : Sd} {ca ta ka : Option Addr} {cc tc kc : Nat} (h : SdAt n0 w s ca cc ta tc ka kc) (hg : w.grownBy w' none) : SdAt n0 w' s ca cc ta tc ka kc := by
  refine ⟨fun W' h1 h2 => h.q W' (fun k hk hl => (h1 k hk (Nat.lt_of_lt_of_le hl hg.size)).trans (hg.block k hl (by simp))) (Nat.le_trans hg.size h2), fun hs => ?_, fun W' h1 h2 => h.su W' (fun k hk hl hn => (h1 k hk (Nat.lt_of_lt_of_le hl hg.size) hn).trans (hg.block k hl (by simp))) (Nat.le_trans hg.size h2)⟩
  obtain ⟨c, va, vc, e, ho⟩ := h.one hs
  exact ⟨c, va, vc, e, own_same ho fun k hk => hg.block k (own_at ho hk).2.1 (by simp)⟩
/-- A row of one command. -/
theorem cu_one {w : World} {n0 : Nat} {ca va : Option Addr} {cc vc : Nat} {c : Cv} (h : w.ownsRow n0 40 10 (.slice ca 1 cc) 1 (cmC c va vc).toList) (hV : Bu w va c.val.length vc c.val) : Cu w ca 1 cc [c] := by
  refine ⟨rfl, (own_cap h).1, (own_cap h).2, ?_⟩
  obtain ⟨g, cap, e⟩ := own_form h (by omega)
  cases e
  refine .inr ⟨g, 0, rfl, (own_at h rfl).2.1, fun i x hi => ?_⟩
  have hi0 : i = 0 := by have := (List.getElem?_eq_some_iff.1 hi).1; simpa using this
  subst hi0
  simp only [List.getElem?_cons_zero, Option.some.injEq] at hi
  subst hi
  refine ⟨va, vc, fun j u hu => ?_, hV⟩
  have hj : j < 10 := (List.getElem?_eq_some_iff.1 hu).1
  rw [Nat.zero_add, h.cellAt j (by omega)]
  exact hu
/-- The value of the one command is set. -/
theorem own_value {w W : World} {n0 g cc vc vd : Nat} {va vb : Option Addr} {c : Cv} {v : List UInt8} (h : w.ownsRow n0 40 10 (.slice (some ⟨g, 0, none⟩) 1 cc) 1 (cmC c va vc).toList) (hs : W.heap[g]? = (w.setCell ⟨g, 2, none⟩ (.slice vb v.length vd)).heap[g]?) : W.ownsRow n0 40 10 (.slice (some ⟨g, 0, none⟩) 1 cc) 1 (cmC { c with val := v } vb vd).toList := by
  refine ⟨rfl, ?_⟩
  rcases h.2 with ⟨h1, -⟩ | ⟨g', cap, cur, e, h2, h3, h4, h5, h6, h7⟩
  · cases h1
  · cases e
    have h8 := heap_setCell_same w g 2 _ _ (.slice vb v.length vd) h3
    refine .inr ⟨g, cc, _, rfl, h2, hs.trans h8, h4, h5, by rw [Array.size_setIfInBounds]; exact h6, ?_⟩
    rw [Array.toList_setIfInBounds, List.take_set, h7]
    rfl
theorem SdAt.put {n0 : Nat} {w : World} {s : Sd} {ca ta ka : Option Addr} {cc tc kc : Nat} (h : SdAt n0 w s ca cc ta tc ka kc) (hs : s.sized = true) : s.req.cmds.length = 1 ∧ ∃ g x, ca = some ⟨g, 0, none⟩ ∧ n0 ≤ g ∧ g < w.heap.size ∧ w.cell? ⟨g, 2, none⟩ = some x ∧ w.frozen? ⟨g, 2, none⟩ = false ∧
    ∀ (W1 W' : World) (vb : Option Addr) (vd : Nat) (v : List UInt8), (∀ k, n0 ≤ k → k < w.heap.size → W1.heap[k]? = w.heap[k]?) → Bu W' vb v.length vd v → (∀ k, n0 ≤ k → k < w.heap.size → W'.heap[k]? = (W1.setCell ⟨g, 2, none⟩ (.slice vb v.length vd)).heap[k]?) → w.heap.size ≤ W'.heap.size → QAt W' (putSd s v) ca cc ta tc ka kc := by
  obtain ⟨c, va, vc, e, ho⟩ := h.one hs
  refine ⟨by rw [e]; rfl, ?_⟩
  obtain ⟨g, cap, e1⟩ := own_form ho (by omega)
  cases e1
  have hg := own_at ho rfl
  refine ⟨g, (cmC c va vc).toList[2]!, rfl, hg.1, hg.2.1, ?_, ?_, fun W1 W' vb vd v k1 hB k3 k4 => ?_⟩
  · rw [ho.cellAt 2 (by omega)]
    rfl
  · rcases ho.2 with ⟨h1, -⟩ | ⟨g', cap', cur, e2, h2, h3, h4⟩
    · cases h1
    · cases e2
      exact frozen_of_row _ _ _ _ _ h3
  · have ho1 := own_same ho fun k hk => by cases hk; exact k1 g hg.1 hg.2.1
    have ho2 := own_value (W := W') ho1 (v := v) (vb := vb) (vd := vd) (k3 g hg.1 hg.2.1)
    obtain ⟨s1, s2⟩ := h.su W' (fun k hk hl hn => by
      have hkg : k ≠ g := fun e => hn (by rw [e]; rfl)
      rw [k3 k hk hl, heap_setCell_other _ _ _ _ hkg]
      exact k1 k hk hl) k4
    refine ⟨?_, s1, s2⟩
    have hc := cu_one ho2 hB
    have el : (putSd s v).cmds = [{ c with val := v }] := by unfold putSd; rw [e]; rfl
    rw [el]
    exact hc
/-- A step that lies in a block is what is answered. -/
theorem step_ret {fn : Func} {W : World} {r : Nat} {cs : Array Value} {tmps : Array Value} {p : Tmp} {Post : Ending → World → Prop} (hf : fn.results = #[.cell p 34]) (hb : W.heap[r]? = some (.cells cs 34 (0, 0))) (h4 : tmps.getD p undef = .pointer (some ⟨r, 0, none⟩)) (hz : cs.size = 16)
    (h : Post (.returned (.agg cs)) W) : bodyPost Tryd.prog fn Post .ret { tmps := tmps, defers := [] } W :=
  bodyPost_ret (results_cell_row hf tmps W r 34 cs (0, 0) _ h4 hb Tryd.underlying34 rfl (by rw [hz]; kernel_rfl)) rfl h
theorem str_app (a b : List UInt8) : (⟨a.toArray⟩ ++ ⟨b.toArray⟩ : ByteArray) = mkB (a ++ b) := by
  apply ByteArray.ext
  rw [ByteArray.data_append]
  simp [mkB]
set_option maxRecDepth 100000 in
set_option maxHeartbeats 1000000 in
theorem refuse_any (f : List UInt8) (hf : f.length ≤ 1000) (used : Int) (w : World) : Calls Tryd.prog 25 #[.string (mkB f), .int .i64 used] w fun e w' => e = .returned (.agg (stC (refuseS f used) none 0 none 0 none 0)) ∧ w.grownBy w' none := by
  have hg := World.grownBy_alloc w (.cells (stC (refuseS f used) none 0 none 0 none 0) 34) none
  have HE : Hid (stC (refuseS f used) none 0 none 0 none 0 = #[.slice none 0 0, .int .i64 0, .string ⟨#[]⟩, .int .i64 0, .int .u32 0, .bool false, .bool false, .string ⟨#[]⟩, .slice none 0 0, .slice none 0 0, .bool false, .string (⟨f.toArray⟩ ++ ⟨#[13, 10]⟩), .int .i64 used, .int .i64 0, .bool false, .int .i64 2]) := by
    show _ = _
    rw [show (⟨f.toArray⟩ ++ ⟨#[13, 10]⟩ : ByteArray) = mkB (f ++ t_end) from str_app f t_end]
    rfl
  have hl : ¬ 9223372036854775807 < f.length + 2 := by omega
  clear hf
  simp only [mkB]
  go_enter Tryd.func25, Tryd.ntmps25
  go_wp2_with (refine wpList_store_row rfl 34 _ _ rfl w.heap.size (stC (refuseS f used) none 0 none 0 none 0) rfl (by rw [HE.out]; rfl) _ (stC noS none 0 none 0 none 0) (World.alloc_heap_new w _) (step_size _ _ _ _ _ _ _) rfl (step_one _ _ _ _ _ _ _) ?_; rw [setRow_alloc])
  exact step_ret rfl (World.alloc_heap_new w _) rfl rfl ⟨rfl, hg⟩
theorem set_line (s : Sv) (b : Bool) (ca ta ka : Option Addr) (cc tc kc : Nat) : (stC s ca cc ta tc ka kc).setIfInBounds 14 (.bool b) = stC { s with line := b } ca cc ta tc ka kc := by simp [stC]
theorem set_skip (s : Sv) (z : Int) (ca ta ka : Option Addr) (cc tc kc : Nat) : (stC s ca cc ta tc ka kc).setIfInBounds 13 (.int .i64 z) = stC { s with skip := z } ca cc ta tc ka kc := by simp [stC]
theorem chunk_is : (⟨#[67, 76, 73, 69, 78, 84, 95, 69, 82, 82, 79, 82, 32, 98, 97, 100, 32, 100, 97, 116, 97, 32, 99, 104, 117, 110, 107]⟩ : ByteArray) = mkB t_chunk := rfl
theorem long_is : (⟨#[67, 76, 73, 69, 78, 84, 95, 69, 82, 82, 79, 82, 32, 108, 105, 110, 101, 32, 116, 111, 111, 32, 108, 111, 110, 103]⟩ : ByteArray) = mkB t_long := rfl
theorem large_is : (⟨#[83, 69, 82, 86, 69, 82, 95, 69, 82, 82, 79, 82, 32, 111, 98, 106, 101, 99, 116, 32, 116, 111, 111, 32, 108, 97, 114, 103, 101, 32, 102, 111, 114, 32, 99, 97, 99, 104, 101]⟩ : ByteArray) = mkB t_large := rfl
theorem StepAt.q {w : World} {s : Sv} {ca ta ka : Option Addr} {cc tc kc : Nat} (h : StepAt w s (stC s ca cc ta tc ka kc)) : QAt w s.req ca cc ta tc ka kc := by
  obtain ⟨ca', cc', ta', tc', ka', kc', e, hq⟩ := h
  have h0 : some (Value.slice ca s.req.cmds.length cc) = some (Value.slice ca' s.req.cmds.length cc') := congrArg (fun x : Array Value => x[0]?) e
  have h8 : some (Value.slice ta s.req.form.toks.length tc) = some (Value.slice ta' s.req.form.toks.length tc') := congrArg (fun x : Array Value => x[8]?) e
  have h9 : some (Value.slice ka s.req.form.keys.length kc) = some (Value.slice ka' s.req.form.keys.length kc') := congrArg (fun x : Array Value => x[9]?) e
  obtain ⟨rfl, -, rfl⟩ := Value.slice.inj (Option.some.inj h0)
  obtain ⟨rfl, -, rfl⟩ := Value.slice.inj (Option.some.inj h8)
  obtain ⟨rfl, -, rfl⟩ := Value.slice.inj (Option.some.inj h9)
  exact hq
/-- What Parse does: a step whose rows are all new. -/
def ParseEnd (s : Sv) (w : World) (e : Ending) (w' : World) : Prop := ∃ ca cc ta tc ka kc, e = .returned (.agg (stC s ca cc ta tc ka kc)) ∧ (∀ W' : World, (∀ k, w.heap.size ≤ k → k < w'.heap.size → W'.heap[k]? = w'.heap[k]?) → w'.heap.size ≤ W'.heap.size → QAt W' s.req ca cc ta tc ka kc) ∧ w.grownBy w' none
theorem ParseEnd.up {s : Sv} {w w1 w' : World} {e : Ending} (h : ParseEnd s w1 e w') (hg : w.grownBy w1 none) : ParseEnd s w e w' := by
  obtain ⟨ca, cc, ta, tc, ka, kc, h1, h2, h3⟩ := h
  exact ⟨ca, cc, ta, tc, ka, kc, h1, fun W' hs hz => h2 W' (fun k hk => hs k (Nat.le_trans hg.size hk)) hz, gr_trans hg h3⟩
theorem pbare_end {w W : World} {old : Array Value} {s : Sv} (hs : s.req = noQ) (hr : W.heap[w.heap.size]? = some (.cells old 34 (0, 0))) (hg : w.grownBy W none) :
    (W.setRow w.heap.size (stC s none 0 none 0 none 0)).heap[w.heap.size]? = some (.cells (stC s none 0 none 0 none 0) 34 (0, 0)) ∧ ParseEnd s w (.returned (.agg (stC s none 0 none 0 none 0))) (W.setRow w.heap.size (stC s none 0 none 0 none 0)) :=
  ⟨setRow_heap W _ old _ _ _ hr, none, 0, none, 0, none, 0, rfl, fun W' _ _ => by rw [hs]; exact QAt.none_ _, ⟨hg.os, hg.tape, hg.output, by rw [size_setRow]; exact hg.size, fun k hk hn => (setRow_other W _ k _ (by omega)).trans (hg.block k hk hn)⟩⟩
/-- A step in a block of its own, of which one cell is set. -/
theorem cell_mid {W0 w1 w2 W2 : World} {B j : Nat} {s s' : Sv} {v x : Value} (hW2 : W2 = w2.alloc (.cells (stC s none 0 none 0 none 0) 34)) (hB : B = w2.heap.size) (g1 : W0.grownBy w1 none) (g2 : w1.grownBy w2 none) (hx : (stC s none 0 none 0 none 0)[j]? = some x) (hS : (stC s none 0 none 0 none 0).setIfInBounds j v = stC s' none 0 none 0 none 0) :
    W2.cell? ⟨B, j, none⟩ = some x ∧ W2.frozen? ⟨B, j, none⟩ = false ∧ (W2.setCell ⟨B, j, none⟩ v).heap[B]? = some (.cells (stC s' none 0 none 0 none 0) 34 (0, 0)) ∧ W0.grownBy (W2.setCell ⟨B, j, none⟩ v) none := by
  have n2 : W2.heap[B]? = some (.cells (stC s none 0 none 0 none 0) 34 (0, 0)) := by rw [hW2, hB]; exact World.alloc_heap_new _ _
  have k2 : W0.grownBy W2 none := by rw [hW2]; exact gr_trans g1 (gr_trans g2 (World.grownBy_alloc _ _ _))
  have n3 := heap_setCell_same W2 B j _ _ v n2
  rw [hS] at n3
  have hb2 : W0.heap.size ≤ B := by rw [hB]; exact Nat.le_trans g1.size g2.size
  exact ⟨by unfold World.cell?; rw [n2]; exact hx, frozen_of_row _ _ _ _ _ n2, n3, ⟨k2.1, k2.2, k2.3, by rw [World.size_setCell]; exact k2.size, fun b hb _ => (heap_setCell_other _ _ _ _ (show b ≠ B by omega)).trans (k2.block b hb (by simp))⟩⟩
end Go.Proofs.YtfcmnkhfmofioaaDoor

namespace Go.Proofs.YtfcmnkhfmofioaaDoor
set_option linter.unusedVariables false
open Go.RowKit

theorem parts_len (op : Int) (v : List UInt8) (ws : List (List UInt8)) : (partsN op v ws).length ≤ ws.length + 5 := by
  unfold partsN
  repeat' split
  all_goals simp
  all_goals omega
theorem quiet_len {op : Int} {ws : List (List UInt8)} {many : Nat} (h : quietN op ws many = true) : ws.length = many + 1 := by
  unfold quietN at h
  simp only [Bool.and_eq_true, decide_eq_true_eq] at h
  exact h.1.2
section
variable {wB w : World} {D : Nat} {a : Option Addr} {len cap : Nat} {ws : List (List UInt8)}
theorem read_any (hL : Laid wB) (H : Dr wB w.heap.size D w zeroD) (hW : Wu (fun b => b ≠ D) w a len cap ws) (hl : len ≤ 5000) (hb : ∀ y ∈ ws, y.length ≤ 140737488351232) : Calls Tryd.prog 30 #[.pointer (some ⟨D, 0, none⟩), .slice a len cap] w fun e w' => ReadsEnd wB D w (rawN ws) e w' := by
  cases ws with
  | nil =>
    obtain rfl : len = 0 := hW.n.symm
    exact read_nil H a cap
  | cons x ws =>
    rw [show rawN (x :: ws) = if opN x = none then (begun x, t_ERROR) else rawB x ws from rfl]
    cases hop : opN x with
    | none =>
      rw [if_pos rfl]
      exact read_none H hW hop
    | some op =>
      rw [if_neg (by simp)]
      have hn := hW.n
      rw [List.length_cons] at hn
      obtain ⟨ks, hks⟩ : ∃ ks, ks = partsN (begun x).op (begun x).verb ws := ⟨_, rfl⟩
      have hkl : ks.length ≤ 6000 := by have := parts_len (begun x).op (begun x).verb ws; rw [← hks] at this; omega
      have hb2 : ∀ y ∈ ws, y.length ≤ 140737488351232 := fun y hy => hb y (List.mem_cons_of_mem _ hy)
      unfold rawB
      simp only []
      rw [show (begun x).verb = x from rfl] at hks
      rw [← hks]
      cases hq : quietN (begun x).op ws ks.length
      · simp only [Bool.false_eq_true, if_false]
        by_cases he : ws.length = ks.length
        · rw [if_pos he]
          exact read_loud hL H hW hl hb2 hop hks hkl hq he
        · rw [if_neg he]
          exact read_few hL H hW hl hb2 hop hks hkl hq he
      · simp only [if_true]
        have he := quiet_len hq
        rw [if_pos (by rw [List.length_take]; omega)]
        exact read_quiet hL H hW hl hb2 hop hks hkl hq he
end
end Go.Proofs.YtfcmnkhfmofioaaDoor

namespace Go.Proofs.YtfcmnkhfmofioaaDoor
set_option linter.unusedVariables false
open Go.RowKit

theorem info_cmd : (Tryd.prog.info? 40).map (fun i => (i.zero, i.size, i.bytes)) = some (some (.agg #[.int .i64 0, .string ⟨#[]⟩, .slice none 0 0, .int .u32 0, .int .i64 0, .int .u64 0, .int .u64 0, .int .u64 0, .bool false, .bool false]), 10, 96) := by kernel_rfl
/-- Commands as cells, one behind the other. -/
def cmdsV (d : Dv) (va : Option Addr) (vc : Nat) (ks : List (List UInt8)) : List Value := ks.flatMap fun x => (cmC (cmdD d x) va vc).toList
theorem cmdsV_len (d : Dv) (va : Option Addr) (vc : Nat) : ∀ ks : List (List UInt8), (cmdsV d va vc ks).length = ks.length * 10
  | [] => rfl
  | x :: ks => by
    have := cmdsV_len d va vc ks
    simp only [cmdsV, List.flatMap_cons, List.length_append, List.length_cons] at this ⊢
    rw [this]
    show 10 + ks.length * 10 = _
    omega
theorem cmdsV_snoc (d : Dv) (va : Option Addr) (vc : Nat) (ks : List (List UInt8)) (x : List UInt8) : cmdsV d va vc (ks ++ [x]) = cmdsV d va vc ks ++ (cmC (cmdD d x) va vc).toList := by simp [cmdsV]
theorem cmdsV_at (d : Dv) (va : Option Addr) (vc : Nat) : ∀ (ks : List (List UInt8)) (i j : Nat) (v : Value) (x : List UInt8), ks[i]? = some x → (cmC (cmdD d x) va vc).toList[j]? = some v → (cmdsV d va vc ks)[i * 10 + j]? = some v
  | [], i, j, v, x, h, _ => by simp at h
  | y :: ks, 0, j, v, x, h, hj => by
    simp at h
    subst h
    have hl : j < 10 := (List.getElem?_eq_some_iff.1 hj).1
    simp only [cmdsV, List.flatMap_cons]
    rw [List.getElem?_append_left (by show 0 * 10 + j < 10; omega), Nat.zero_mul, Nat.zero_add]
    exact hj
  | y :: ks, i + 1, j, v, x, h, hj => by
    have := cmdsV_at d va vc ks i j v x (by simpa using h) hj
    simp only [cmdsV, List.flatMap_cons] at this ⊢
    rw [List.getElem?_append_right (by show 10 ≤ (i + 1) * 10 + j; omega)]
    have e : (i + 1) * 10 + j - (cmC (cmdD d y) va vc).toList.length = i * 10 + j := by show (i + 1) * 10 + j - 10 = _; omega
    rw [e]
    exact this
section
variable {w : World} {n0 D : Nat} {d : Dv} {a va : Option Addr} {c vc : Nat}
/-- The rows of a request that was made. -/
theorem cu_of {w' : World} {n : Nat} {v : Value} {ks : List (List UInt8)} (h : w'.ownsRow n0 40 10 v n (cmdsV d va vc ks)) (hV : Bu w' va d.val.length vc d.val) : ∃ ca cc, v = .slice ca n cc ∧ Cu w' ca n cc (ks.map (cmdD d)) := by
  obtain ⟨ca, cc, rfl⟩ := own_shape h
  have hl : ks.length = n := by have := h.1; rw [cmdsV_len] at this; omega
  refine ⟨ca, cc, rfl, by rw [List.length_map, hl], (own_cap h).1, (own_cap h).2, ?_⟩
  by_cases h0 : n = 0
  · exact .inl h0
  · obtain ⟨g, cap, e⟩ := own_form h (by omega)
    cases e
    refine .inr ⟨g, 0, rfl, (own_at h rfl).2.1, fun i x hi => ?_⟩
    rw [List.getElem?_map] at hi
    cases hx : ks[i]? with
    | none => rw [hx] at hi; cases hi
    | some y =>
      rw [hx] at hi
      cases hi
      have hin : i < n := by have := (List.getElem?_eq_some_iff.1 hx).1; omega
      refine ⟨va, vc, fun j u hu => ?_, hV⟩
      have hj : j < 10 := (List.getElem?_eq_some_iff.1 hu).1
      rw [Nat.zero_add, h.cellAt (i * 10 + j) (by have := h.1; rw [cmdsV_len] at this; omega)]
      exact cmdsV_at d va vc ks i j u y hx hu
theorem news_row (w : World) (cs : Array Value) (t : TypeId) : ∀ (j : Nat) (u : Value), cs.toList[j]? = some u → (w.alloc (.cells cs t)).cell? ((⟨w.heap.size, 0, none⟩ : Addr).add j) = some u := fun j u hu => by
  rw [add_at, Nat.zero_add]
  unfold World.cell?
  rw [World.alloc_heap_new]
  simpa using hu
theorem su_keys (hK : w.ownsRow n0 9 1 (.slice a d.keys.length c) d.keys.length (strL d.keys)) : Su w a (d.keys.map mkB).length c (d.keys.map mkB) := by
  have h : w.ownsRow n0 9 1 (.slice a d.keys.length c) d.keys.length ((d.keys.map mkB).map Value.string) := by rw [List.map_map]; exact hK
  obtain ⟨a', c', e, hs⟩ := Su.own h
  cases e
  rw [List.length_map]
  exact hs
theorem req_ret {fn : Func} {W : World} {r : Nat} {cs : Array Value} {tmps : Array Value} {p : Tmp} {Post : Ending → World → Prop} (hf : fn.results = #[.cell p 31]) (hb : W.heap[r]? = some (.cells cs 31 (0, 0))) (h4 : tmps.getD p undef = .pointer (some ⟨r, 0, none⟩)) (hz : cs.size = 11)
    (h : Post (.returned (.agg cs)) W) : bodyPost Tryd.prog fn Post .ret { tmps := tmps, defers := [] } W :=
  bodyPost_ret (results_cell_row hf tmps W r 31 cs (0, 0) _ h4 hb Tryd.underlying31 rfl (by rw [hz]; kernel_rfl)) rfl h
/-- The form's cells, one by one. -/
theorem form_cells {W : World} {t : TypeId} (h : W.heap[D]? = some (.cells (drC d a c va vc) t (0, 0))) : W.cell? ⟨D, 0, none⟩ = some (.int .i64 d.dia) ∧ W.cell? ⟨D, 1, none⟩ = some (.string (mkB d.verb)) ∧ W.cell? ⟨D, 2, none⟩ = some (.int .i64 0) ∧ W.cell? ⟨D, 3, none⟩ = some (.int .u32 0) ∧ W.cell? ⟨D, 4, none⟩ = some (.bool d.quiet) ∧ W.cell? ⟨D, 5, none⟩ = some (.bool d.wcas) ∧ W.cell? ⟨D, 6, none⟩ = some (.string ⟨#[]⟩) ∧ W.cell? ⟨D, 7, none⟩ = some (.slice none 0 0) ∧ W.cell? ⟨D, 8, none⟩ = some (.slice a d.keys.length c) ∧ W.cell? ⟨D, 9, none⟩ = some (.bool false) :=
  ⟨dr_at h 0 _ rfl, dr_at h 1 _ rfl, dr_at h 2 _ rfl, dr_at h 3 _ rfl, dr_at h 4 _ rfl, dr_at h 5 _ rfl, dr_at h 6 _ rfl, dr_at h 7 _ rfl, dr_at h 8 _ rfl, dr_at h 9 _ rfl⟩
/-- The keys whose commands are made: nothing, where there is none. -/
def ksD (d : Dv) : List (List UInt8) := if d.keys = [] then [[]] else d.keys
theorem ksD_cmds (d : Dv) : (reqD d).cmds = (ksD d).map (cmdD d) := by
  unfold ksD
  show (if d.keys = [] then _ else _) = _
  split <;> rfl
/-- What request does: a new row of commands. -/
def ReqEnd (d : Dv) (a : Option Addr) (c : Nat) (va : Option Addr) (vc : Nat) (w : World) (e : Ending) (w' : World) : Prop := ∃ ca cc, e = .returned (.agg (rqC (reqD d) ca cc none 0 a c)) ∧ w'.ownsRow (w.heap.size + 1) 40 10 (.slice ca (ksD d).length cc) (ksD d).length (cmdsV d va vc (ksD d)) ∧ w.grownBy w' none
/-- A request's rows, where they lie. -/
theorem qat_of {w' : World} {n1 : Nat} {ca : Option Addr} {cc : Nat} (ho : w'.ownsRow n1 40 10 (.slice ca (ksD d).length cc) (ksD d).length (cmdsV d va vc (ksD d))) (hK : w'.ownsRow n0 9 1 (.slice a d.keys.length c) d.keys.length (strL d.keys)) (hV : Bu w' va d.val.length vc d.val) : QAt w' (reqD d) ca cc none 0 a c := by
  obtain ⟨ca', cc', e, hc⟩ := cu_of ho hV
  cases e
  refine ⟨?_, Su.none_ _, su_keys hK⟩
  rw [ksD_cmds, List.length_map]
  exact hc
theorem req_end {W : World} {v : Value} {n : Nat} {old : Array Value} (hg : w.grownBy W none) (hr : W.heap[w.heap.size]? = some (.cells old 31 (0, 0))) (ho : W.ownsRow (w.heap.size + 1) 40 10 v n (cmdsV d va vc (ksD d))) (hn : (ksD d).length = n) :
    ∃ ca cc, v = .slice ca n cc ∧ (W.setRow w.heap.size (rqC (reqD d) ca cc none 0 a c)).heap[w.heap.size]? = some (.cells (rqC (reqD d) ca cc none 0 a c) 31 (0, 0)) ∧ (W.setRow w.heap.size (rqC (reqD d) ca cc none 0 a c)).ownsRow (w.heap.size + 1) 40 10 (.slice ca (ksD d).length cc) (ksD d).length (cmdsV d va vc (ksD d)) ∧ w.grownBy (W.setRow w.heap.size (rqC (reqD d) ca cc none 0 a c)) none := by
  obtain ⟨ca, cc, rfl⟩ := own_shape ho
  have hg2 : w.grownBy (W.setRow w.heap.size (rqC (reqD d) ca cc none 0 a c)) none := ⟨hg.1, hg.2, hg.3, by rw [size_setRow]; exact hg.size, fun k hk _ => (setRow_other W _ k _ (by omega)).trans (hg.block k hk (by simp))⟩
  have ho2 : (W.setRow w.heap.size (rqC (reqD d) ca cc none 0 a c)).ownsRow (w.heap.size + 1) 40 10 (.slice ca n cc) n (cmdsV d va vc (ksD d)) := own_same ho fun k hk => setRow_other W _ k _ (by have := (own_at ho hk).1; omega)
  subst hn
  exact ⟨ca, cc, rfl, setRow_heap W _ old _ _ _ hr, ho2, hg2⟩
theorem req_cells {n : Nat} (hn : (reqD d).cmds.length = n) (ca : Option Addr) (cc : Nat) : rqC (reqD d) ca cc none 0 a c = #[.slice ca n cc, .int .i64 d.dia, .string (mkB d.verb), .int .i64 0, .int .u32 0, .bool d.quiet, .bool d.wcas, .string ⟨#[]⟩, .slice none 0 0, .slice a d.keys.length c, .bool false] := by
  have e : (reqD d).form.keys.length = d.keys.length := List.length_map _
  unfold rqC
  rw [hn, e]
  rfl
set_option maxRecDepth 100000 in
set_option maxHeartbeats 2000000 in
theorem request_none (hD : w.heap[D]? = some (.cells (drC d a c va vc) 62 (0, 0))) (hK : w.ownsRow n0 9 1 (.slice a d.keys.length c) d.keys.length (strL d.keys)) (hV : Bu w va d.val.length vc d.val) (hk : d.keys = []) : Calls Tryd.prog 31 #[.pointer (some ⟨D, 0, none⟩)] w fun e w' => ReqEnd d a c va vc w e w' := by
  have hlt : D < w.heap.size := (Array.getElem?_eq_some_iff.1 hD).1
  obtain ⟨W0, hW0⟩ : ∃ W0, W0 = w.alloc (.cells #[.slice none 0 0, .int .i64 0, .string ⟨#[]⟩, .int .i64 0, .int .u32 0, .bool false, .bool false, .string ⟨#[]⟩, .slice none 0 0, .slice none 0 0, .bool false] 31) := ⟨_, rfl⟩
  have g0 : w.grownBy W0 none := by rw [hW0]; exact World.grownBy_alloc _ _ _
  have r0 : W0.heap[w.heap.size]? = some (.cells #[.slice none 0 0, .int .i64 0, .string ⟨#[]⟩, .int .i64 0, .int .u32 0, .bool false, .bool false, .string ⟨#[]⟩, .slice none 0 0, .slice none 0 0, .bool false] 31 (0, 0)) := by rw [hW0]; exact World.alloc_heap_new w _
  have hD0 := (g0.block D hlt (by simp)).trans hD
  have q8 := dr_keys hD
  obtain ⟨i0, hi, hz0, hz1, hz2⟩ := info_parts info_cmd
  have hz : W0.heap.size = w.heap.size + 1 := by rw [hW0, World.size_alloc]
  have HD := hide hD
  have HK := hide hK
  have HV := hide hV
  rw [hk, List.length_nil] at q8
  have hr := dr_cmd hD0
  have HC : Hid (ksD d = [[]]) := by show ksD d = _; unfold ksD; rw [if_pos hk]
  have HQ0 := hide (fun ca cc => req_cells (d := d) (a := a) (c := c) (n := 1) (by rw [ksD_cmds, HC.out]; rfl) ca cc)
  have HD0 := hide hD0
  clear hD hK hV hD0 hk
  go_enter Tryd.func31, Tryd.ntmps31
  go_wp2
  rw [← hW0]
  clear hW0
  go_loopw [3, 13] (fun v i wr => v = .slice none 0 0 ∧ i = .int .i64 0 ∧ wr = W0) (fun _ _ _ => 0)
  case atStart => exact ⟨rfl, rfl, rfl⟩
  case round =>
    obtain ⟨rfl, rfl, rfl⟩ := hrel
    go_wp2_with (first
      | (refine wpList_load_mid rfl 40 _ rfl D 10 rfl (cmD d va vc).toList _ hr Tryd.underlying40 rfl (by rw [cm_size d va vc, Array.length_toList]) ?_)
      | (refine wpList_buildSlice rfl 25 40 1 _ rfl (cmC (cmdD d []) va vc) i0 _ Tryd.underlying25 hi hz0 (by rw [hz1]; decide) (by rw [hz1]; decide) (by rw [hz1]; kernel_rfl) ?_)
      | (at_builtin; refine wpList_append_own _ rfl _ _ 25 rfl (w.heap.size + 1) 40 i0 _ 10 96 Tryd.underlying25 hi hz0 hz1 hz2 rfl (by decide) _ 0 [] rfl (World.ownsRow_nil _ _ _ _) ⟨wr.heap.size, 0, none⟩ 1 1 (cmC (cmdD d []) va vc).toList rfl rfl (news_row _ _ _) (fun u hu => Array.all_eq_true_iff_forall_mem.1 (cmd_one (cmdD d []) va vc) u (by simpa using hu)) (by decide) (by decide) (by rw [World.size_alloc, hz]; omega) ?_; intro v' w1 o1 g1 _; have g2 := gr_trans (World.grownBy_alloc wr (.cells (cmC (cmdD d []) va vc) 40) none) g1; have hw1 : w.grownBy w1 none := gr_trans g0 g2; have r1 := (g2.block w.heap.size (by rw [hz]; omega) (by simp)).trans r0; obtain ⟨ca, cc, rfl, e1, e2, e3⟩ := req_end (d := d) (va := va) (vc := vc) (a := a) (c := c) hw1 r1 (by rw [HC.out]; simpa [cmdsV] using o1) (by rw [HC.out]; rfl); obtain ⟨f0, f1, f2, f3, f4, f5, f6, f7, f8, f9⟩ := form_cells ((g2.block D (by rw [hz]; omega) (by simp)).trans HD0.out); have HQ := hide (HQ0.out ca cc); have HR := hide r1; have HE := hide (And.intro e1 (And.intro e2 e3)); clear o1 g1 g2 hw1 r1 e1 e2 e3)
      | (refine wpList_store_row rfl 31 _ _ rfl w.heap.size (rqC (reqD d) ca cc none 0 a c) rfl (by rw [HQ.out]; rfl) _ _ HR.out (req_size _ _ _ _ _ _ _) rfl (req_one _ _ _ _ _ _ _) ?_))
    exact req_ret rfl HE.out.1 rfl rfl ⟨_, _, rfl, HE.out.2⟩
end
end Go.Proofs.YtfcmnkhfmofioaaDoor
