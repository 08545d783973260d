/- A block of three slices of bytes that is made in a call and handed back. Conditions: none. The parts of an answer of package binout: what they are, where they lie, and numbers and texts as bytes of their own. Conditions: none. -/
import Derived.Test.YtaafkefgpgoepaaSub3
import Derived.Test.YtaafkefgpgoepaaG38Joined
import Derived.Test.YtaafkefgpgoepaaPut32
import Derived.Test.YtaafkefgpgoepaaByteOnto
import Derived.Test.YtaafkefgpgoepaaRowPut
import Derived.Lib.SlBytesConst
namespace Go.Proofs.Ytaafkefgpgoepaa
set_option linter.unusedVariables false
open Go.RowKit Go.Shelf

/-- Three slices as cells. -/
def pt3 (xa : Option Addr) (xn xc : Nat) (ka : Option Addr) (kn kc : Nat) (va : Option Addr) (vn vc : Nat) : Array Value := #[.slice xa xn xc, .slice ka kn kc, .slice va vn vc]
theorem pt3_size (xa : Option Addr) (xn xc : Nat) (ka : Option Addr) (kn kc : Nat) (va : Option Addr) (vn vc : Nat) : (Try.prog.info? 38).map (·.size) = some (pt3 xa xn xc ka kn kc va vn vc).size := by
  have h : (Try.prog.info? 38).map (·.size) = some 3 := by kernel_rfl
  exact h
theorem pt3_one (xa : Option Addr) (xn xc : Nat) (ka : Option Addr) (kn kc : Nat) (va : Option Addr) (vn vc : Nat) : (pt3 xa xn xc ka kn kc va vn vc).all (·.oneCell') = true := by simp [pt3, Value.oneCell']
/-- The block lies there, made since w. -/
structure PtS (w W : World) (B : Nat) (cs : Array Value) : Prop where
  row : W.heap[B]? = some (.cells cs 38 (0, 0))
  gr : w.grownBy W none
  new : w.heap.size ≤ B
section
variable {w V W W' w1 : World} {B : Nat} {cs : Array Value}
theorem PtS.lt (h : PtS w W B cs) : B < W.heap.size := (Array.getElem?_eq_some_iff.1 h.row).1
theorem PtS.make (w : World) (cs : Array Value) : PtS w (w.alloc (.cells cs 38)) w.heap.size cs := ⟨World.alloc_heap_new w _, World.grownBy_alloc _ _ _, Nat.le_refl _⟩
theorem PtS.on (h : PtS w W B cs) (hg : W.grownBy W' none) : PtS w W' B cs := ⟨(hg.block B h.lt (by simp)).trans h.row, gr_trans h.gr hg, h.new⟩
theorem PtS.set (h : PtS w W B cs) (j : Nat) (v : Value) : PtS w (W.setCell ⟨B, j, none⟩ v) B (cs.setIfInBounds j v) := ⟨setAtB j v h.row, gr_new h.gr (setGrB W B j v) h.new, h.new⟩
theorem PtS.cell (h : PtS w W B cs) {j : Nat} {v : Value} (hj : cs[j]? = some v) : W.cell? ⟨B, j, none⟩ = some v := by
  unfold World.cell?
  rw [h.row]
  exact hj
theorem PtS.fz (h : PtS w W B cs) (j : Nat) : W.frozen? ⟨B, j, none⟩ = false := frozen_of_row W B j cs _ h.row
/-- The row again. -/
theorem PtS.again (h : PtS w W B cs) (ds : Array Value) : PtS w (W.setRow B ds) B ds ∧ W.grownBy (W.setRow B ds) (some B) := by
  have g : W.grownBy (W.setRow B ds) (some B) := ⟨rfl, rfl, rfl, by rw [size_setRow]; exact Nat.le_refl _, fun k hk hn => setRow_other W B k _ (fun e => hn (by rw [e]))⟩
  exact ⟨⟨setRow_heap W B cs ds _ _ h.row, gr_new h.gr g h.new, h.new⟩, g⟩
/-- A slice is stored behind a call that wrote nothing that was there. -/
theorem pt_step (P : PtS w W B cs) (G : V.grownBy W (some B)) (hg : W.grownBy w1 none) {j : Nat} {old : Value} (hj : cs[j]? = some old) (v : Value) :
    ∃ W1, w1.setCell ⟨B, j, none⟩ v = W1 ∧ w1.cell? ⟨B, j, none⟩ = some old ∧ w1.frozen? ⟨B, j, none⟩ = false ∧ PtS w W1 B (cs.setIfInBounds j v) ∧ V.grownBy W1 (some B) ∧ w1.grownBy W1 (some B) := by
  have P1 := P.on hg
  have g := setGrB w1 B j v
  exact ⟨_, rfl, P1.cell hj, P1.fz j, P1.set j v, gr_self (gr_trans G (gr_any hg (some B))) g, g⟩
/-- Blocks from n on stay as they are. -/
def Hi (n : Nat) (W W' : World) : Prop := W.heap.size ≤ W'.heap.size ∧ ∀ k, n ≤ k → k < W.heap.size → W'.heap[k]? = W.heap[k]?
theorem Hi.of {n : Nat} (h : W.grownBy W' (some B)) (hB : B < n) : Hi n W W' := ⟨h.size, fun k hk hl => h.block k hl (fun e => by have := Option.some.inj e; omega)⟩
theorem Hi.gr {n : Nat} (h : W.grownBy W' none) : Hi n W W' := ⟨h.size, fun k hk hl => h.block k hl (by simp)⟩
theorem Hi.trans {n : Nat} {a b c : World} (h : Hi n a b) (k : Hi n b c) : Hi n a c := ⟨Nat.le_trans h.1 k.1, fun i hi hl => (k.2 i hi (Nat.lt_of_lt_of_le hl h.1)).trans (h.2 i hi hl)⟩
theorem Hi.up {n m : Nat} (h : Hi n W W') (hn : n ≤ m) : Hi m W W' := ⟨h.1, fun k hk hl => h.2 k (Nat.le_trans hn hk) hl⟩
/-- Bytes of their own stay where blocks from theirs on do. -/
theorem val_hi {n0 : Nat} {a : Option Addr} {c : Nat} {l : List UInt8} (h : ValAt n0 W a c l) (hg : Hi n0 W W') : Bu W' a l.length c l := by
  have hb := h.bu
  refine ⟨hb.n, ?_, hb.c, hb.m⟩
  rcases hb.b with h1 | ⟨b, off, r⟩
  · exact .inl h1
  · have hr := r
    obtain ⟨q1, q2, q3, q4, q5, q6, q7⟩ := r
    subst q1
    have h2 : n0 ≤ b := by
      have h' : W.ownsRow n0 5 1 (.slice (some ⟨b, off, none⟩) l.length c) l.length (byU l) := h
      rcases h'.2 with ⟨h1, _⟩ | ⟨g, cap, cur, h1, h2, _⟩
      · cases h1
      · cases h1
        exact h2
    have e := hg.2 b h2 q7
    exact .inr ⟨b, off, rfl, q2, q3, q4, q5, fun i hi => by rw [World.cell?_of_block (a := ⟨b, off + i, none⟩) e]; exact q6 i hi, Nat.lt_of_lt_of_le q7 hg.1⟩
theorem val_far {n0 : Nat} {a : Option Addr} {c : Nat} {l : List UInt8} (h : ValAt n0 W a c l) (hg : W.grownBy W' (some B)) (hB : B < n0) : Bu W' a l.length c l := val_hi h (Hi.of hg hB)
end
end Go.Proofs.Ytaafkefgpgoepaa

namespace Go.Proofs.Ytaafkefgpgoepaa
set_option linter.unusedVariables false
set_option linter.unusedSimpArgs false
open Go.RowKit Go.Shelf

def toldX (x : Rv) : List UInt8 := if x.s = 0 then byL (be x.fl.toNat 4) else []
def toldK (f : Fv) (c : Cv) (x : Rv) : List UInt8 := if x.s = 0 then (keyA f.code c.key).data.toList else []
def toldV (x : Rv) : List UInt8 := if x.s = 0 then x.val else if x.s = 7 then byL (be x.num.toNat 8) else if x.s = 11 then [49] else []
def toldC (x : Rv) : Int := if x.s = 0 ∨ x.s = 7 ∨ x.s = 2 then x.cas else 0
theorem told_other {f : Fv} {c : Cv} {x : Rv} (h0 : ¬ x.s = 0) (h7 : ¬ x.s = 7) (h2 : ¬ x.s = 2) (h11 : ¬ x.s = 11) : toldX x = [] ∧ toldK f c x = [] ∧ toldV x = [] ∧ toldC x = 0 := by
  unfold toldX toldK toldV toldC
  rw [if_neg h0, if_neg h0, if_neg h0, if_neg h7, if_neg h11, if_neg (by omega)]
  exact ⟨rfl, rfl, rfl, rfl⟩
theorem told_key {f : Fv} {c : Cv} {x : Rv} (h : f.code = 12 ∨ f.code = 13) (hk : c.key.size ≤ 1000) (hs : x.s = 0) : toldK f c x = c.key.data.toList := by
  unfold toldK
  rw [if_pos hs, keyA_yes h hk]
theorem told_nokey {f : Fv} {c : Cv} {x : Rv} (h : ¬ (f.code = 12 ∨ f.code = 13)) : toldK f c x = [] := by
  unfold toldK
  rw [keyA_no h]
  split <;> rfl
/-- The parts of an answer, and its number. -/
def RdP (f : Fv) (c : Cv) (x : Rv) (w : World) (e : Ending) (w' : World) : Prop := ∃ xa xn xc ka kn kc va vn vc, e = .returned (.tuple #[.agg (pt3 xa xn xc ka kn kc va vn vc), .int .u64 (toldC x)]) ∧ Bu w' xa xn xc (toldX x) ∧ Bu w' ka kn kc (toldK f c x) ∧ Bu w' va vn vc (toldV x) ∧ w.grownBy w' none
theorem results_row_tmp {P : Program} {fn : Func} {p t6 : Tmp} {ty : TypeId} (h : fn.results = #[.cell p ty, .tmp t6]) (tmps : Array Value) (w : World) (g : Nat) (t : TypeId) (cs : Array Value) (fr : Nat × Nat) (d : TypeDesc)
    (hp : tmps.getD p undef = .pointer (some ⟨g, 0, none⟩)) (hg : w.heap[g]? = some (.cells cs t fr))
    (hu : P.underlying ty = some d) (hd : (match d with | .struct _ | .array _ _ => true | _ => false) = true) (hi : (P.info? ty).map (·.size) = some cs.size) :
    (results fn tmps).run P w = .ok (.tuple #[.agg cs, tmps.getD t6 undef]) w := by
  have hp' : tmps[p]?.getD undef = .pointer (some ⟨g, 0, none⟩) := by simpa using hp
  simp [results, h, hp', asAddr, run_loadVar_row w g t ty cs fr d hg hu hd hi]
/-- The three boxes of a call that tells the parts. -/
structure TB (W : World) (B q1 q2 q3 : Nat) (F C X : Array Value) : Prop where
  r1 : W.heap[q1]? = some (.cells F 26 (0, 0))
  r2 : W.heap[q2]? = some (.cells C 48 (0, 0))
  r3 : W.heap[q3]? = some (.cells X 46 (0, 0))
  n1 : q1 ≠ B
  n2 : q2 ≠ B
  n3 : q3 ≠ B
theorem TB.on {W W' : World} {B q1 q2 q3 : Nat} {F C X : Array Value} (h : TB W B q1 q2 q3 F C X) (g : W.grownBy W' (some B)) : TB W' B q1 q2 q3 F C X :=
  have k : ∀ {q : Nat} {o : Obj}, W.heap[q]? = some o → q ≠ B → W'.heap[q]? = some o := fun {q o} h1 h2 => (g.block q (Array.getElem?_eq_some_iff.1 h1).1 (fun e => h2 (Option.some.inj e))).trans h1
  ⟨k h.r1 h.n1, k h.r2 h.n2, k h.r3 h.n3, h.n1, h.n2, h.n3⟩
theorem tb_new {w A1 A2 A3 V : World} {q1 q2 q3 B : Nat} {F C X D : Array Value} (h1 : w.alloc (.cells F 26) = A1) (e1 : w.heap.size = q1) (h2 : A1.alloc (.cells C 48) = A2) (e2 : A1.heap.size = q2) (h3 : A2.alloc (.cells X 46) = A3) (e3 : A2.heap.size = q3) (h4 : A3.alloc (.cells D 38) = V) (e4 : A3.heap.size = B) :
    TB V B q1 q2 q3 F C X ∧ PtS w V B D := by
  have g1 : w.grownBy A1 none := by rw [← h1]; exact World.grownBy_alloc _ _ _
  have g2 : A1.grownBy A2 none := by rw [← h2]; exact World.grownBy_alloc _ _ _
  have g3 : A2.grownBy A3 none := by rw [← h3]; exact World.grownBy_alloc _ _ _
  have g4 : A3.grownBy V none := by rw [← h4]; exact World.grownBy_alloc _ _ _
  have r1 : A1.heap[q1]? = some (.cells F 26 (0, 0)) := by rw [← h1, ← e1]; exact World.alloc_heap_new _ _
  have r2 : A2.heap[q2]? = some (.cells C 48 (0, 0)) := by rw [← h2, ← e2]; exact World.alloc_heap_new _ _
  have r3 : A3.heap[q3]? = some (.cells X 46 (0, 0)) := by rw [← h3, ← e3]; exact World.alloc_heap_new _ _
  have r4 : V.heap[B]? = some (.cells D 38 (0, 0)) := by rw [← h4, ← e4]; exact World.alloc_heap_new _ _
  have s1 := (Array.getElem?_eq_some_iff.1 r1).1
  have s2 := (Array.getElem?_eq_some_iff.1 r2).1
  have s3 := (Array.getElem?_eq_some_iff.1 r3).1
  have z1 := g1.size
  have z2 := g2.size
  have z3 := g3.size
  exact ⟨⟨((gr_trans g2 (gr_trans g3 g4)).block _ s1 (by simp)).trans r1, ((gr_trans g3 g4).block _ s2 (by simp)).trans r2, (g4.block _ s3 (by simp)).trans r3, by omega, by omega, by omega⟩, r4, gr_trans g1 (gr_trans g2 (gr_trans g3 g4)), by omega⟩
/-- A number's bytes, new. -/
def NewU (w : World) (n : Nat) (l : List UInt8) (e : Ending) (w' : World) : Prop := ∃ g, e = .returned (.slice (some ⟨g, 0, none⟩) n n) ∧ (∀ W', Hi w.heap.size w' W' → Bu W' (some ⟨g, 0, none⟩) n n l) ∧ w.grownBy w' none
theorem newU_of {w w' : World} {e : Ending} {n k : Nat} (h1 : e = .returned (.slice (some ⟨w.heap.size, 0, none⟩) n n)) (h2 : w'.ownsRow w.heap.size 5 1 (.slice (some ⟨w.heap.size, 0, none⟩) n n) n ((be k n).map (Value.int .u8))) (h3 : Below w.heap.size w w') : NewU w n (byL (be k n)) e w' := by
  have hl : (byL (be k n)).length = n := by simp [byL, be]
  have hv : ValAt w.heap.size w' (some ⟨w.heap.size, 0, none⟩) n (byL (be k n)) := by
    unfold ValAt byU byV
    rw [hl, ints_byL (be_byt _ _)]
    exact h2
  refine ⟨_, h1, fun W' hW => ?_, gr_of_below h3⟩
  have := val_hi hv hW
  rwa [hl] at this
theorem pput64 (n : Nat) (w : World) : Calls Try.prog 27 #[.int .u64 n] w fun e w' => NewU w 8 (byL (be n 8)) e w' :=
  (put64_any n w).mono fun e w' ⟨h1, h2, h3⟩ => newU_of h1 h2 h3
theorem pput32 (n : Nat) (hn : n < 4294967296) (w : World) : Calls Try.prog 26 #[.int .u32 n] w fun e w' => NewU w 4 (byL (be n 4)) e w' :=
  (put32_any n hn w).mono fun e w' ⟨h1, h2, h3⟩ => newU_of h1 h2 h3
theorem pput16 (n : Nat) (hn : n < 65536) (w : World) : Calls Try.prog 29 #[.int .u16 n] w fun e w' => NewU w 2 (byL (be n 2)) e w' :=
  (put16_any n hn w).mono fun e w' ⟨h1, h2, h3⟩ => newU_of h1 h2 h3
/-- '[]byte(s)', new. -/
theorem text_new (S : ByteArray) (hS : S.size ≤ maxLen) (w : World) : ∃ g c w', (convert 9 32 (.string S)).run Try.prog w = .ok (.slice (some ⟨g, 0, none⟩) S.size c) w' ∧ (∀ W', Hi w.heap.size w' W' → Bu W' (some ⟨g, 0, none⟩) S.size c S.data.toList) ∧ w.grownBy w' none := by
  obtain ⟨c, w', h1, h2, h3⟩ := free_bytes S hS w
  refine ⟨_, c, w', h1, fun W' hW => ?_, h3⟩
  have e := hW.2 w.heap.size (Nat.le_refl _) h2.old
  exact Free.bu ⟨h2.len, h2.new, Nat.lt_of_lt_of_le h2.old hW.1, h2.le, h2.max, fun i hi => by rw [World.cell?_of_block (a := ⟨w.heap.size, i, none⟩) e]; exact h2.cell i hi, fun i hi => by rw [World.cell?_of_block (a := ⟨w.heap.size, i, none⟩) e, World.frozen?_of_block (a := ⟨w.heap.size, i, none⟩) e]; exact h2.room i hi⟩
/-- A row of one byte, new. -/
theorem one_new {V U : World} {K : Nat} {u : UInt8} {fr : Nat × Nat} (h : V.alloc (.cells #[.int .u8 (u.toNat : Int)] 5 fr) = U) (e : V.heap.size = K) : V.grownBy U none ∧ ∀ W', Hi K U W' → Bu W' (some ⟨K, 0, none⟩) 1 1 [u] := by
  subst h e
  refine ⟨World.grownBy_alloc _ _ _, fun W' hW => ?_⟩
  have r := World.alloc_heap_new V (.cells #[.int .u8 (u.toNat : Int)] 5 fr)
  have s := (Array.getElem?_eq_some_iff.1 r).1
  have e := (hW.2 _ (Nat.le_refl _) s).trans r
  refine ⟨rfl, .inr ⟨_, 0, rfl, by decide, by decide, rfl, ints_byt _, fun i hi => ?_, Nat.lt_of_lt_of_le s hW.1⟩, by decide, by decide⟩
  obtain rfl : i = 0 := by omega
  unfold World.cell?
  rw [e]
  rfl
end Go.Proofs.Ytaafkefgpgoepaa
