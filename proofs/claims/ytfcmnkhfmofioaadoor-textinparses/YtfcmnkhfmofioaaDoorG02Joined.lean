/- Requests of the text dialect, as values: what chapter 14 says. Conditions: none. Worlds that go on: what is new, what is written. Conditions: none. Memory in parts: what a part says hangs on its own blocks alone, and parts that stand beside each other share none. Conditions: none. Slices of bytes that came in, and their being appended to a row of one's own. Conditions: none. Bytes that lie in memory, and texts made of them. Conditions: none of the program's variables is read. Bytes that lie in memory: cut, copied, appended. Conditions: none of the program's variables is read; appends of at most 100000000 bytes. -/
import Derived.Test.YtfcmnkhfmofioaaDoorG00Joined
import Derived.Test.YtfcmnkhfmofioaaDoorG01Joined
import Derived.Laws.AppendOwn
import Derived.Maps.AppendAt
import Derived.Laws.OwnMore
import Derived.RangeFuncNested
import Derived.RangeFuncBox
import Derived.Laws.IdiomStrings
import Derived.Laws.AppendOwnNone
import Derived.Laws.Cover3
namespace Go.Proofs.YtfcmnkhfmofioaaDoor
/- The words that lines begin with, and the others of the dialect. -/
def vb_get : List UInt8 := [103, 101, 116]
def vb_gets : List UInt8 := [103, 101, 116, 115]
def vb_gat : List UInt8 := [103, 97, 116]
def vb_gats : List UInt8 := [103, 97, 116, 115]
def vb_set : List UInt8 := [115, 101, 116]
def vb_cas : List UInt8 := [99, 97, 115]
def vb_add : List UInt8 := [97, 100, 100]
def vb_replace : List UInt8 := [114, 101, 112, 108, 97, 99, 101]
def vb_append : List UInt8 := [97, 112, 112, 101, 110, 100]
def vb_prepend : List UInt8 := [112, 114, 101, 112, 101, 110, 100]
def vb_delete : List UInt8 := [100, 101, 108, 101, 116, 101]
def vb_incr : List UInt8 := [105, 110, 99, 114]
def vb_decr : List UInt8 := [100, 101, 99, 114]
def vb_touch : List UInt8 := [116, 111, 117, 99, 104]
def vb_flush : List UInt8 := [102, 108, 117, 115, 104, 95, 97, 108, 108]
def vb_version : List UInt8 := [118, 101, 114, 115, 105, 111, 110]
def vb_quit : List UInt8 := [113, 117, 105, 116]
def t_noreply : List UInt8 := [110, 111, 114, 101, 112, 108, 121]
def t_ERROR : List UInt8 := [69, 82, 82, 79, 82]
def t_bad : List UInt8 := [67, 76, 73, 69, 78, 84, 95, 69, 82, 82, 79, 82, 32, 98, 97, 100, 32, 99, 111, 109, 109, 97, 110, 100, 32, 108, 105, 110, 101, 32, 102, 111, 114, 109, 97, 116]
def t_delta : List UInt8 := [67, 76, 73, 69, 78, 84, 95, 69, 82, 82, 79, 82, 32, 105, 110, 118, 97, 108, 105, 100, 32, 110, 117, 109, 101, 114, 105, 99, 32, 100, 101, 108, 116, 97, 32, 97, 114, 103, 117, 109, 101, 110, 116]
def t_chunk : List UInt8 := [67, 76, 73, 69, 78, 84, 95, 69, 82, 82, 79, 82, 32, 98, 97, 100, 32, 100, 97, 116, 97, 32, 99, 104, 117, 110, 107]
def t_long : List UInt8 := [67, 76, 73, 69, 78, 84, 95, 69, 82, 82, 79, 82, 32, 108, 105, 110, 101, 32, 116, 111, 111, 32, 108, 111, 110, 103]
def t_large : List UInt8 := [83, 69, 82, 86, 69, 82, 95, 69, 82, 82, 79, 82, 32, 111, 98, 106, 101, 99, 116, 32, 116, 111, 111, 32, 108, 97, 114, 103, 101, 32, 102, 111, 114, 32, 99, 97, 99, 104, 101]
def t_end : List UInt8 := [13, 10]
/-- The kind of command that a first word asks for. -/
def opN (v : List UInt8) : Option Int :=
  if v = vb_get ∨ v = vb_gets then some 0
  else if v = vb_gat ∨ v = vb_gats then some 1
  else if v = vb_set ∨ v = vb_cas then some 3
  else if v = vb_add then some 4
  else if v = vb_replace then some 5
  else if v = vb_append then some 6
  else if v = vb_prepend then some 7
  else if v = vb_delete then some 8
  else if v = vb_incr then some 10
  else if v = vb_decr then some 11
  else if v = vb_touch then some 2
  else if v = vb_flush then some 13
  else if v = vb_version then some 15
  else if v = vb_quit then some 16
  else none
/-- A request whose line is being read: its form, its commands' parts, the size of its body. -/
structure Dv where
  verb : List UInt8
  dia : Int
  quiet : Bool
  wcas : Bool
  keys : List (List UInt8)
  op : Int
  val : List UInt8
  fl : Int
  exp : Int
  cas : Int
  del : Int
  size : Int
  sized : Bool
def zeroD : Dv := ⟨[], 0, false, false, [], 0, [], 0, 0, 0, 0, 0, false⟩
def begun (v : List UInt8) : Dv := ⟨v, 1, false, decide (v = vb_gets ∨ v = vb_gats), [], (opN v).getD 0, [], 0, 0, 0, 0, 0, false⟩
/-- May a command be quiet? -/
def mayQ (op : Int) : Bool := !(decide (op = 0 ∨ op = 1 ∨ op = 15 ∨ op = 16))
def quietN (op : Int) (ws : List (List UInt8)) (many : Nat) : Bool := mayQ op && decide (ws.length = many + 1) && decide (ws[many]? = some t_noreply)
/-- How each word behind the first is read: 0 a key, 1 EXP, 2 DELTA, 3 FLAGS, 4 BYTES, 5 CAS. -/
def partsN (op : Int) (v : List UInt8) (ws : List (List UInt8)) : List Nat :=
  if op = 0 then List.replicate (max ws.length 1) 0
  else if op = 1 then 1 :: List.replicate (max (ws.length - 1) 1) 0
  else if 3 ≤ op ∧ op ≤ 7 then (if v = vb_cas then [0, 3, 1, 4, 5] else [0, 3, 1, 4])
  else if op = 8 then [0]
  else if op = 10 ∨ op = 11 then [0, 2]
  else if op = 2 then [0, 1]
  else if op = 13 then (if ws ≠ [] ∧ quietN op ws 0 = false then [1] else [])
  else []
def faultK (k : Nat) : List UInt8 := if k = 2 then t_delta else t_bad
def mostK (k : Nat) : Nat := if k = 3 then 4294967295 else 18446744073709551615
def keepK (k : Nat) (d : Dv) (u : Nat) : Dv :=
  if k = 2 then { d with del := u }
  else if k = 3 then { d with fl := u }
  else if k = 4 then { d with size := u, sized := true }
  else { d with cas := u }
/-- One word is read: what is known then, and its fault, if it has one. -/
def readW (k : Nat) (d : Dv) (x : List UInt8) : Dv × List UInt8 :=
  if k = 0 then ({ d with keys := d.keys ++ [x] }, if keyN x = true ∧ d.keys.length + 1 ≤ 16 then [] else t_bad)
  else if k = 1 then (match sgn x with | some z => ({ d with exp := z }, []) | none => (d, t_bad))
  else match dec x with
    | some u => if u ≤ mostK k then (keepK k d u, []) else (d, faultK k)
    | none => (d, faultK k)
/-- The words are read, one by one; the first fault is kept. -/
def runR : List Nat → List (List UInt8) → Dv → List UInt8 → Dv × List UInt8
  | k :: ks, x :: xs, d, f => runR ks xs (readW k d x).1 (if f = [] then (readW k d x).2 else f)
  | _, _, d, f => (d, f)
def largeN (r : Dv × List UInt8) : Dv × List UInt8 := (r.1, if r.2 = [] ∧ 1000 < r.1.size then t_large else r.2)
/-- The words behind a first one that there is. -/
def behindN (v : List UInt8) (ws : List (List UInt8)) : Dv × List UInt8 :=
  let d := begun v
  let ks := partsN d.op v ws
  let q := quietN d.op ws ks.length
  let d1 := if q then { d with quiet := true } else d
  let ws1 := if q then ws.take ks.length else ws
  if ws1.length = ks.length then largeN (runR ks ws1 d1 []) else (d1, t_ERROR)
def readN : List (List UInt8) → Dv × List UInt8
  | [] => (zeroD, t_ERROR)
  | v :: ws => if opN v = none then (begun v, t_ERROR) else behindN v ws
/-- What package textin's draft reads: the size of the body is not held against its bound yet. -/
def rawB (v : List UInt8) (ws : List (List UInt8)) : Dv × List UInt8 :=
  let d := begun v
  let ks := partsN d.op v ws
  let q := quietN d.op ws ks.length
  let d1 := if q then { d with quiet := true } else d
  let ws1 := if q then ws.take ks.length else ws
  if ws1.length = ks.length then runR ks ws1 d1 [] else (d1, t_ERROR)
def rawN : List (List UInt8) → Dv × List UInt8
  | [] => (zeroD, t_ERROR)
  | v :: ws => if opN v = none then (begun v, t_ERROR) else rawB v ws
theorem large_error (d : Dv) : largeN (d, t_ERROR) = (d, t_ERROR) := by
  unfold largeN
  rw [if_neg (fun h => by cases h.1)]
theorem readN_raw (ws : List (List UInt8)) : readN ws = largeN (rawN ws) := by
  cases ws with
  | nil => exact (large_error zeroD).symm
  | cons v ws =>
    show (if opN v = none then (begun v, t_ERROR) else behindN v ws) = largeN (if opN v = none then (begun v, t_ERROR) else rawB v ws)
    split
    · exact (large_error _).symm
    · unfold behindN rawB
      simp only []
      rw [apply_ite largeN, large_error]
def skipN (d : Dv) : Int := if d.sized = true ∧ d.size ≤ 1073741824 then d.size + 2 else 0
def cmdD (d : Dv) (key : List UInt8) : Cv := ⟨d.op, mkB key, d.val, d.fl, d.exp, d.cas, d.del, 0, false, false⟩
def formD (d : Dv) : Fv := ⟨d.dia, mkB d.verb, 0, 0, d.quiet, d.wcas, ⟨#[]⟩, [], d.keys.map mkB, false⟩
def reqD (d : Dv) : Qv := ⟨if d.keys = [] then [cmdD d []] else d.keys.map (cmdD d), formD d⟩
def moreS : Sv := ⟨noQ, ⟨#[]⟩, 0, 0, false, 3⟩
def refuseS (f : List UInt8) (used : Int) : Sv := ⟨noQ, mkB (f ++ t_end), used, 0, false, 2⟩
/-- A line's request, with its body out of what is behind it. -/
def finishN (d : Dv) (rest : List UInt8) (used : Int) : Sv :=
  if d.sized = false then ⟨reqD d, ⟨#[]⟩, used, 0, false, 0⟩
  else if (bodyN rest d.size).2.2 = 3 then moreS
  else if (bodyN rest d.size).2.2 = 2 then { refuseS t_chunk (used + (bodyN rest d.size).2.1) with line := true }
  else ⟨reqD { d with val := (bodyN rest d.size).1 }, ⟨#[]⟩, used + (bodyN rest d.size).2.1, 0, false, 0⟩
def lineS (ws : List (List UInt8)) (rest : List UInt8) (used : Int) : Sv :=
  if (readN ws).2 = [] then finishN (readN ws).1 rest used else { refuseS (readN ws).2 used with skip := skipN (readN ws).1 }
def wordsL (l : List UInt8) : List (List UInt8) := restL l 0 0
/-- P14.1 to P14.4. -/
def parseN (l : List UInt8) : Sv :=
  if (lineN l).2.2 = 3 then moreS
  else if (lineN l).2.2 = 4 then { refuseS t_long (lineN l).2.1 with line := (cutL l).isNone }
  else lineS (wordsL (lineN l).1) (l.drop (lineN l).2.1.toNat) (lineN l).2.1
theorem wordsB_L (s : ByteArray) : wordsB s = (wordsL s.data.toList).map mkB := rfl
end Go.Proofs.YtfcmnkhfmofioaaDoor

namespace Go.Proofs.YtfcmnkhfmofioaaDoor
open Go.RowKit

theorem gr_refl (w : World) (row : Option Nat) : w.grownBy w row := ⟨rfl, rfl, rfl, Nat.le_refl _, fun _ _ _ => rfl⟩
theorem gr_any {a b : World} (h : a.grownBy b none) (row : Option Nat) : a.grownBy b row := ⟨h.1, h.2, h.3, h.4, fun k hk _ => h.5 k hk (by simp)⟩
theorem gr_trans {a b c : World} {row : Option Nat} (h : a.grownBy b row) (k : b.grownBy c row) : a.grownBy c row :=
  ⟨k.1.trans h.1, k.2.trans h.2, k.3.trans h.3, Nat.le_trans h.4 k.4, fun i hi hr => (k.5 i (Nat.lt_of_lt_of_le hi h.4) hr).trans (h.5 i hi hr)⟩
/-- What is written is new. -/
theorem gr_new {a b c : World} {row : Option Nat} {n : Nat} (h : a.grownBy b row) (k : b.grownBy c (some n)) (hn : a.heap.size ≤ n) : a.grownBy c row :=
  ⟨k.1.trans h.1, k.2.trans h.2, k.3.trans h.3, Nat.le_trans h.4 k.4, fun i hi hr => (k.5 i (Nat.lt_of_lt_of_le hi h.4) (fun e => by cases e; omega)).trans (h.5 i hi hr)⟩
theorem gr_below {w a b : World} {row : Option Nat} (hB : Below w.heap.size w a) (h : a.grownBy b row) (hr : ∀ n, row = some n → w.heap.size ≤ n) : Below w.heap.size w b := hB.grown h hB.size hr
theorem gr_of_below {a b : World} (h : Below a.heap.size a b) : a.grownBy b none := ⟨h.os, h.tape, h.output, h.size, fun k hk _ => h.block k hk⟩
theorem below_gr {a b : World} (h : a.grownBy b none) : Below a.heap.size a b := (Below.refl _ _).grown h (Nat.le_refl _) (fun _ e => by cases e)
/-- The world goes on, and writes at most what F names and what is new. -/
structure Gr (F : Nat → Prop) (w w' : World) : Prop where
  os : w'.os = w.os
  tape : w'.tape = w.tape
  output : w'.output = w.output
  size : w.heap.size ≤ w'.heap.size
  block : ∀ k, k < w.heap.size → ¬ F k → w'.heap[k]? = w.heap[k]?
theorem Gr.refl (F : Nat → Prop) (w : World) : Gr F w w := ⟨rfl, rfl, rfl, Nat.le_refl _, fun _ _ _ => rfl⟩
theorem Gr.trans {F : Nat → Prop} {a b c : World} (h : Gr F a b) (k : Gr F b c) : Gr F a c :=
  ⟨k.os.trans h.os, k.tape.trans h.tape, k.output.trans h.output, Nat.le_trans h.size k.size, fun i hi hr => (k.block i (Nat.lt_of_lt_of_le hi h.size) hr).trans (h.block i hi hr)⟩
/-- What the second step writes besides is new. -/
theorem Gr.then {F G : Nat → Prop} {a b c : World} (h : Gr F a b) (k : Gr G b c) (hG : ∀ i, i < a.heap.size → G i → F i) : Gr F a c :=
  ⟨k.os.trans h.os, k.tape.trans h.tape, k.output.trans h.output, Nat.le_trans h.size k.size, fun i hi hr => (k.block i (Nat.lt_of_lt_of_le hi h.size) (fun hg => hr (hG i hi hg))).trans (h.block i hi hr)⟩
theorem Gr.below {F : Nat → Prop} {w a b : World} (hB : Below w.heap.size w a) (h : Gr F a b) (hF : ∀ k, F k → w.heap.size ≤ k) : Below w.heap.size w b :=
  ⟨h.os.trans hB.os, h.tape.trans hB.tape, h.output.trans hB.output, Nat.le_trans hB.size h.size, fun k hk => (h.block k (Nat.lt_of_lt_of_le hk hB.size) (fun hf => by have := hF k hf; omega)).trans (hB.block k hk)⟩
theorem Gr.of {w w' : World} {row : Option Nat} (h : w.grownBy w' row) : Gr (fun k => row = some k) w w' := ⟨h.1, h.2, h.3, h.4, fun k hk hr => h.5 k hk (fun e => hr e.symm)⟩
theorem Gr.to {F : Nat → Prop} {w w' : World} {row : Option Nat} (h : Gr F w w') (hF : ∀ k, F k → row = some k) : w.grownBy w' row := ⟨h.os, h.tape, h.output, h.size, fun k hk hr => h.block k hk (fun hf => hr (hF k hf).symm)⟩
/-- What it owns behind a step was its own, or is new. -/
def Grew (w : World) (own own' : Nat → Prop) : Prop := ∀ k, own' k → own k ∨ w.heap.size ≤ k
end Go.Proofs.YtfcmnkhfmofioaaDoor

namespace Go.Proofs.YtfcmnkhfmofioaaDoor
open Go.RowKit

structure Part where
  own : Nat → Prop
  q : World → Prop
  on : ∀ w1 w2 : World, q w1 → (∀ k, own k → w2.heap[k]? = w1.heap[k]?) → q w2
def Part.emp : Part := ⟨fun _ => False, fun _ => True, fun _ _ _ _ => trivial⟩
/-- Two parts beside each other. -/
def Part.and (A B : Part) : Part where
  own := fun k => A.own k ∨ B.own k
  q := fun w => A.q w ∧ B.q w ∧ ∀ k, A.own k → ¬ B.own k
  on := fun w1 w2 h hs => ⟨A.on w1 w2 h.1 fun k hk => hs k (.inl hk), B.on w1 w2 h.2.1 fun k hk => hs k (.inr hk), h.2.2⟩
/-- Where a statement stands that began at w0: nothing of that world is written, and all its parts are new. -/
structure Law (w0 w : World) (A : Part) : Prop where
  below : Below w0.heap.size w0 w
  q : A.q w
  lt : ∀ k, A.own k → w0.heap.size ≤ k ∧ k < w.heap.size
section
variable {w0 w w' w1 : World} {A A' B C R R' : Part}
theorem Law.start (w : World) : Law w w Part.emp := ⟨Below.refl _ _, trivial, fun _ h => h.elim⟩
theorem Law.ofBelow (h : Below w0.heap.size w0 w) : Law w0 w Part.emp := ⟨h, trivial, fun _ h => h.elim⟩
theorem Law.step (H : Law w0 w A) (hg : w.grownBy w' none) : Law w0 w' A :=
  ⟨gr_below H.below hg (fun _ e => by cases e), A.on w w' H.q fun k hk => hg.block k (H.lt k hk).2 (by simp), fun k hk => ⟨(H.lt k hk).1, Nat.lt_of_lt_of_le (H.lt k hk).2 hg.size⟩⟩
theorem Law.drew (H : Law w0 w A) : Law w0 w.drew A := H.step ⟨rfl, rfl, rfl, Nat.le_refl _, fun _ _ _ => rfl⟩
theorem Law.drewN (H : Law w0 w A) (j : Nat) : Law w0 (w.drewN j) A := H.step ⟨rfl, rfl, rfl, Nat.le_refl _, fun _ _ _ => rfl⟩
theorem Law.alloc (H : Law w0 w A) (o : Obj) : Law w0 (w.alloc o) A := H.step (World.grownBy_alloc w o none)
/-- The first part turns. -/
theorem Law.turn (H : Law w0 w (A.and R)) (hq : A'.q w') (hl : ∀ k, A'.own k → k < w'.heap.size) (hg : Gr A.own w w') (hgr : Grew w A.own A'.own) : Law w0 w' (A'.and R) := by
  refine ⟨Gr.below H.below hg (fun k hk => (H.lt k (.inl hk)).1), ⟨hq, R.on w w' H.q.2.1 fun k hk => hg.block k (H.lt k (.inr hk)).2 (fun ha => H.q.2.2 k ha hk), fun k ha hr => ?_⟩, ?_⟩
  · rcases hgr k ha with h | h
    · exact H.q.2.2 k h hr
    · exact Nat.not_lt_of_le h (H.lt k (.inr hr)).2
  · rintro k (hk | hk)
    · refine ⟨?_, hl k hk⟩
      rcases hgr k hk with h | h
      · exact (H.lt k (.inl h)).1
      · exact Nat.le_trans H.below.size h
    · exact ⟨(H.lt k (.inr hk)).1, Nat.lt_of_lt_of_le (H.lt k (.inr hk)).2 hg.size⟩
/-- A new part. -/
theorem Law.new (H : Law w0 w R) (hg : w.grownBy w' none) (hq : A.q w') (hn : ∀ k, A.own k → w.heap.size ≤ k ∧ k < w'.heap.size) : Law w0 w' (A.and R) := by
  have S := H.step hg
  refine ⟨S.below, ⟨hq, S.q, fun k ha hr => Nat.not_lt_of_le (hn k ha).1 (H.lt k hr).2⟩, ?_⟩
  rintro k (hk | hk)
  · exact ⟨Nat.le_trans H.below.size (hn k hk).1, (hn k hk).2⟩
  · exact S.lt k hk
theorem Law.comm (H : Law w0 w (A.and B)) : Law w0 w (B.and A) := ⟨H.below, ⟨H.q.2.1, H.q.1, fun k hb ha => H.q.2.2 k ha hb⟩, fun k hk => H.lt k hk.symm⟩
theorem Law.rot (H : Law w0 w (A.and (B.and C))) : Law w0 w (B.and (A.and C)) := by
  obtain ⟨hA, ⟨hB, hC, hBC⟩, hx⟩ := H.q
  refine ⟨H.below, ⟨hB, ⟨hA, hC, fun k ha hc => hx k ha (.inr hc)⟩, ?_⟩, ?_⟩
  · rintro k hb (ha | hc)
    · exact hx k ha (.inl hb)
    · exact hBC k hb hc
  · rintro k (hk | hk | hk)
    · exact H.lt k (.inr (.inl hk))
    · exact H.lt k (.inl hk)
    · exact H.lt k (.inr (.inr hk))
theorem and_rot_q {w : World} {B C D : Part} (h : (B.and (C.and D)).q w) : (C.and (B.and D)).q w := by
  obtain ⟨hA, ⟨hB, hC, hBC⟩, hx⟩ := h
  refine ⟨hB, ⟨hA, hC, fun k ha hc => hx k ha (.inr hc)⟩, ?_⟩
  rintro k hb (ha | hc)
  · exact hx k ha (.inl hb)
  · exact hBC k hb hc
theorem and_rot_own {B C D : Part} (k : Nat) (h : (C.and (B.and D)).own k) : (B.and (C.and D)).own k := by
  rcases h with h | h | h
  · exact .inr (.inl h)
  · exact .inl h
  · exact .inr (.inr h)
theorem Law.assoc (H : Law w0 w ((A.and B).and C)) : Law w0 w (A.and (B.and C)) := by
  obtain ⟨⟨hA, hB, hAB⟩, hC, hx⟩ := H.q
  refine ⟨H.below, ⟨hA, ⟨hB, hC, fun k hb hc => hx k (.inr hb) hc⟩, ?_⟩, ?_⟩
  · rintro k ha (hb | hc)
    · exact hAB k ha hb
    · exact hx k (.inl ha) hc
  · rintro k (hk | hk | hk)
    · exact H.lt k (.inl (.inl hk))
    · exact H.lt k (.inl (.inr hk))
    · exact H.lt k (.inr hk)
theorem Law.unassoc (H : Law w0 w (A.and (B.and C))) : Law w0 w ((A.and B).and C) := by
  obtain ⟨hA, ⟨hB, hC, hBC⟩, hx⟩ := H.q
  refine ⟨H.below, ⟨⟨hA, hB, fun k ha hb => hx k ha (.inl hb)⟩, hC, ?_⟩, ?_⟩
  · rintro k (ha | hb) hc
    · exact hx k ha (.inr hc)
    · exact hBC k hb hc
  · rintro k ((hk | hk) | hk)
    · exact H.lt k (.inl hk)
    · exact H.lt k (.inr (.inl hk))
    · exact H.lt k (.inr (.inr hk))
theorem Law.left (H : Law w0 w (A.and B)) : Law w0 w A := ⟨H.below, H.q.1, fun k hk => H.lt k (.inl hk)⟩
theorem Law.right (H : Law w0 w (A.and B)) : Law w0 w B := ⟨H.below, H.q.2.1, fun k hk => H.lt k (.inr hk)⟩
theorem Law.drop2 (H : Law w0 w (A.and (B.and C))) : Law w0 w (A.and C) := H.rot.right
/-- Less is known. -/
theorem Law.weak (H : Law w0 w A) (hq : A.q w → B.q w) (ho : ∀ k, B.own k → A.own k) : Law w0 w B := ⟨H.below, hq H.q, fun k hk => H.lt k (ho k hk)⟩
theorem Law.weak1 (H : Law w0 w (A.and R)) (hq : A.q w → A'.q w) (ho : ∀ k, A'.own k → A.own k) : Law w0 w (A'.and R) :=
  ⟨H.below, ⟨hq H.q.1, H.q.2.1, fun k ha hr => H.q.2.2 k (ho k ha) hr⟩, fun k hk => H.lt k (hk.imp (ho k) id)⟩
theorem Law.in1 (H : Law w0 w (A.and R)) (hq : R.q w → R'.q w) (ho : ∀ k, R'.own k → R.own k) : Law w0 w (A.and R') := (H.comm.weak1 hq ho).comm
theorem Law.inAssoc {D : Part} (H : Law w0 w (A.and ((B.and C).and D))) : Law w0 w (A.and (B.and (C.and D))) := by
  refine H.in1 (fun hq => ?_) fun k hk => ?_
  · obtain ⟨⟨hA, hB, hAB⟩, hC, hx⟩ := hq
    refine ⟨hA, ⟨hB, hC, fun k hb hc => hx k (.inr hb) hc⟩, ?_⟩
    rintro k ha (hb | hc)
    · exact hAB k ha hb
    · exact hx k (.inl ha) hc
  · rcases hk with hk | hk | hk
    · exact .inl (.inl hk)
    · exact .inl (.inr hk)
    · exact .inr hk
theorem Law.inUnassoc {D : Part} (H : Law w0 w (A.and (B.and (C.and D)))) : Law w0 w (A.and ((B.and C).and D)) := by
  refine H.in1 (fun hq => ?_) fun k hk => ?_
  · obtain ⟨hA, ⟨hB, hC, hBC⟩, hx⟩ := hq
    refine ⟨⟨hA, hB, fun k ha hb => hx k ha (.inl hb)⟩, hC, ?_⟩
    rintro k (ha | hb) hc
    · exact hx k ha (.inr hc)
    · exact hBC k hb hc
  · rcases hk with (hk | hk) | hk
    · exact .inl hk
    · exact .inr (.inl hk)
    · exact .inr (.inr hk)
/-- The second and the third part change places. -/
theorem Law.rin {D : Part} (H : Law w0 w (A.and (B.and (C.and D)))) : Law w0 w (A.and (C.and (B.and D))) := H.in1 (fun h => and_rot_q h) fun k hk => and_rot_own k hk
end
theorem own_same {w w' : World} {n0 n size : Nat} {e : TypeId} {v : Value} {xs : List Value} (h : w.ownsRow n0 e size v n xs) (hs : ∀ k, v.ownBlock = some k → w'.heap[k]? = w.heap[k]?) : w'.ownsRow n0 e size v n xs := by
  refine ⟨h.1, ?_⟩
  rcases h.2 with h1 | ⟨g, cap, cur, hv, h2, h3, h4⟩
  · exact .inl h1
  · exact .inr ⟨g, cap, cur, hv, h2, (hs g (by rw [hv]; rfl)).trans h3, h4⟩
theorem own_form {W : World} {base : Nat} {e : TypeId} {size : Nat} {v : Value} {k : Nat} {xs : List Value} (h : W.ownsRow base e size v k xs) (hk : 0 < k) : ∃ g cap, v = .slice (some ⟨g, 0, none⟩) k cap := by
  rcases h.2 with h1 | ⟨g, cap, cur, hv, h2, h3, h4⟩
  · omega
  · exact ⟨g, cap, hv⟩
theorem own_shape {W : World} {base : Nat} {e : TypeId} {size : Nat} {v : Value} {k : Nat} {xs : List Value} (h : W.ownsRow base e size v k xs) : ∃ a cap, v = .slice a k cap := by
  rcases h.2 with ⟨hv, h1⟩ | ⟨g, cap, cur, hv, h2, h3, h4⟩
  · exact ⟨none, 0, by rw [hv, h1]⟩
  · exact ⟨_, cap, hv⟩
theorem own_cap {w : World} {base n cap size : Nat} {a : Option Addr} {e : TypeId} {xs : List Value} (h : w.ownsRow base e size (.slice a n cap) n xs) : n ≤ cap ∧ cap ≤ maxLen := by
  rcases h.2 with ⟨h1, h2⟩ | ⟨g', cap', cur, hv, _, _, h4, h5, _⟩
  · cases h1
    exact ⟨Nat.le_refl _, Nat.zero_le _⟩
  · cases hv
    exact ⟨h4, h5⟩
theorem own_at {W : World} {base : Nat} {e : TypeId} {size : Nat} {v : Value} {n k : Nat} {xs : List Value} (h : W.ownsRow base e size v n xs) (hk : v.ownBlock = some k) : base ≤ k ∧ k < W.heap.size ∧ ∃ o : Obj, W.heap[k]? = some o ∧ o.isCells = true := by
  rcases h.2 with ⟨hv, h1⟩ | ⟨g, cap, cur, hv, h2, h3, h4⟩
  · rw [hv] at hk
    cases hk
  · rw [hv] at hk
    cases hk
    exact ⟨h2, (Array.getElem?_eq_some_iff.1 h3).1, _, h3, rfl⟩
/-- A block. -/
def boxP (k : Nat) (o : Obj) : Part := ⟨fun j => j = k, fun w => w.heap[k]? = some o, fun _ _ h hs => (hs k rfl).trans h⟩
/-- A slice that owns its row, from block n0 on. -/
def rowP (n0 : Nat) (e : TypeId) (size : Nat) (v : Value) (n : Nat) (xs : List Value) : Part := ⟨fun k => v.ownBlock = some k, fun w => w.ownsRow n0 e size v n xs, fun _ _ h hs => own_same h hs⟩
section
variable {w0 w w' w1 : World} {A A' B C R R' : Part} {e t : TypeId} {size n m n0 k : Nat} {v v' x y : Value} {xs ys : List Value} {tmp : Obj}
theorem Law.box (H : Law w0 w R) (o : Obj) : Law w0 (w.alloc o) ((boxP w.heap.size o).and R) :=
  H.new (World.grownBy_alloc w o none) (World.alloc_heap_new w o) (by rintro k rfl; rw [World.size_alloc]; exact ⟨Nat.le_refl _, Nat.lt_succ_self _⟩)
theorem Law.nil (H : Law w0 w R) : Law w0 w ((rowP n0 e size (.slice none 0 0) 0 []).and R) :=
  ⟨H.below, ⟨World.ownsRow_nil _ _ _ _, H.q, fun k ha => by cases ha⟩, fun k hk => hk.elim (fun h => by cases h) (H.lt k)⟩
theorem Law.set (H : Law w0 w ((boxP k (.cells #[x] t)).and R)) (y : Value) : Law w0 (w.setCell ⟨k, 0, none⟩ y) ((boxP k (.cells #[y] t)).and R) := by
  have hb : Boxed w k t x := H.q.1
  refine H.turn (A' := boxP k (.cells #[y] t)) (show Boxed _ k t y from hb.set y) (fun j hj => ?_) ?_ fun j hj => .inl hj
  · rw [World.size_setCell]
    exact (H.lt j (.inl hj)).2
  · have hg := grownBy_setCell' w k y
    exact ⟨hg.1, hg.2, hg.3, hg.4, fun j hj hn => hg.5 j hj (fun e => hn (by cases e; rfl))⟩
theorem Law.setAt {cs : Array Value} (H : Law w0 w ((boxP k (.cells cs t)).and R)) (i : Nat) (y : Value) : Law w0 (w.setCell ⟨k, i, none⟩ y) ((boxP k (.cells (cs.setIfInBounds i y) t)).and R) := by
  refine H.turn (A' := boxP k (.cells (cs.setIfInBounds i y) t)) (heap_setCell_same w k i cs t y H.q.1) (fun j hj => ?_) ?_ fun j hj => .inl hj
  · rw [World.size_setCell]
    exact (H.lt j (.inl hj)).2
  · exact ⟨rfl, rfl, rfl, by rw [World.size_setCell]; exact Nat.le_refl _, fun j _ hn => heap_setCell_other _ _ _ _ hn⟩
/-- More is appended to the first part's row. -/
theorem Law.app (H : Law w0 w ((rowP n0 e size v n xs).and R)) (hown : w1.ownsRow n0 e size v' m ys) (hgrow : (w.alloc tmp).grownBy w1 v.ownBlock) (hat : v'.ownBlock = v.ownBlock ∨ v'.ownBlock = some (w.alloc tmp).heap.size) : Law w0 w1 ((rowP n0 e size v' m ys).and R) := by
  have hsa : (w.alloc tmp).heap.size = w.heap.size + 1 := World.size_alloc _ _
  have hs1 := hgrow.size
  refine H.turn hown (fun k hk => (own_at hown hk).2.1) ⟨hgrow.1, hgrow.2, hgrow.3, by omega, fun k hk hr => (hgrow.block k (by omega) (fun e => hr e.symm)).trans (Below.heap_alloc _ _ _ hk)⟩ fun k hk => ?_
  rcases hat with h | h
  · exact .inl (h.symm.trans hk)
  · have hk' : v'.ownBlock = some k := hk
    rw [h] at hk'
    cases hk'
    exact .inr (by omega)
/-- The same where nothing was laid ahead of it. -/
theorem Law.app0 (H : Law w0 w ((rowP n0 e size v n xs).and R)) (hown : w1.ownsRow n0 e size v' m ys) (hgrow : w.grownBy w1 v.ownBlock) (hat : v'.ownBlock = v.ownBlock ∨ v'.ownBlock = some w.heap.size) : Law w0 w1 ((rowP n0 e size v' m ys).and R) := by
  refine H.turn hown (fun k hk => (own_at hown hk).2.1) ⟨hgrow.1, hgrow.2, hgrow.3, hgrow.size, fun k hk hr => hgrow.block k hk (fun e => hr e.symm)⟩ fun k hk => ?_
  rcases hat with h | h
  · exact .inl (h.symm.trans hk)
  · have hk' : v'.ownBlock = some k := hk
    rw [h] at hk'
    cases hk'
    exact .inr (Nat.le_refl _)
end
/-- No loop's record lies among its blocks. -/
def Part.firm (B : Nat) (A : Part) : Prop := ∀ (W : World) (k : Nat), A.q W → A.own k → k < B ∨ ∃ o : Obj, W.heap[k]? = some o ∧ o.isCells = true
theorem firm_and {B : Nat} {A C : Part} (h : A.firm B) (h' : C.firm B) : (A.and C).firm B := fun W k hq ho => ho.elim (h W k hq.1) (h' W k hq.2.1)
theorem firm_emp {B : Nat} : Part.emp.firm B := fun _ _ _ ho => ho.elim
theorem firm_box {B k : Nat} {cs : Array Value} {t : TypeId} {z : Nat × Nat} : (boxP k (.cells cs t z)).firm B := fun _ j hq ho => by
  obtain rfl : j = k := ho
  exact .inr ⟨_, hq, rfl⟩
theorem firm_row {B n0 : Nat} {e : TypeId} {size : Nat} {v : Value} {n : Nat} {xs : List Value} : (rowP n0 e size v n xs).firm B := fun _ _ hq ho => .inr (own_at hq ho).2.2
theorem firm_old {B : Nat} {A : Part} (h : ∀ k, A.own k → k < B) : A.firm B := fun _ k _ ho => .inl (h k ho)
theorem own_law {β : Type} {B : Nat} {w0 : World} {A : β → Part} (hB : w0.heap.size ≤ B) (hf : ∀ s, (A s).firm B) : OwnFrom B (fun s W => Law w0 W (A s)) := fun s W W' row hs hg hr => by
  have key : ∀ k, (A s).own k → W'.heap[k]? = W.heap[k]? := fun k hk => hg.block k (hs.lt k hk).2 (fun e => by
    obtain ⟨h1, o, ho, hc⟩ := hr k e.symm
    rcases hf s W k hs.q hk with h | ⟨o', ho', hc'⟩
    · omega
    · rw [ho] at ho'
      cases ho'
      rw [hc] at hc'
      cases hc')
  exact ⟨gr_below hs.below hg (fun r e => Nat.le_trans hB (hr r e).1), (A s).on W W' hs.q key, fun k hk => ⟨(hs.lt k hk).1, Nat.lt_of_lt_of_le (hs.lt k hk).2 hg.size⟩⟩
/-- What is kept in mind beside an iterator's own memory. -/
theorem lasts_law {α β : Type} {B : Nat} {w0 : World} {it : Part} {G : List α → β → Part} {C : List α → β → Prop} (hB : w0.heap.size ≤ B) (hit : ∀ k, it.own k → k < B) : ∀ pre V V' fp, (∃ v, fp = (G pre v).own ∧ Law w0 V (it.and (G pre v)) ∧ C pre v) → Gr (fun k => B ≤ k) V V' → (∀ k, fp k → V'.heap[k]? = V.heap[k]?) → ∃ v, fp = (G pre v).own ∧ Law w0 V' (it.and (G pre v)) ∧ C pre v := by
  rintro pre V V' fp ⟨v, rfl, H, hC⟩ hg hs
  refine ⟨v, rfl, ⟨Gr.below H.below hg (fun k hk => Nat.le_trans hB hk), ⟨it.on V V' H.q.1 fun k hk => hg.block k (H.lt k (.inl hk)).2 (by have := hit k hk; omega), (G pre v).on V V' H.q.2.1 hs, H.q.2.2⟩, fun k hk => ⟨(H.lt k hk).1, Nat.lt_of_lt_of_le (H.lt k hk).2 hg.size⟩⟩, hC⟩
theorem foot_law {α β : Type} {w0 : World} {it : Part} {G : List α → β → Part} {C : List α → β → Prop} : ∀ pre V fp, (∃ v, fp = (G pre v).own ∧ Law w0 V (it.and (G pre v)) ∧ C pre v) → ∀ k, fp k → k < V.heap.size ∧ ¬ it.own k := by
  rintro pre V fp ⟨v, rfl, H, hC⟩ k hk
  exact ⟨(H.lt k (.inr hk)).2, fun ho => H.q.2.2 k ho hk⟩
/-- One more is appended to a slice that lies in a box. -/
theorem app_store {w0 W w1 : World} {it R : Part} {n0 n m bo : Nat} {e t : TypeId} {size : Nat} {v v' : Value} {xs ys : List Value} {tmp : Obj} (H : Law w0 W (it.and ((rowP n0 e size v n xs).and ((boxP bo (.cells #[v] t)).and R))))
    (hown : w1.ownsRow n0 e size v' m ys) (hgrow : (W.alloc tmp).grownBy w1 v.ownBlock) (hat : v'.ownBlock = v.ownBlock ∨ v'.ownBlock = some (W.alloc tmp).heap.size) :
    Boxed w1 bo t v ∧ Law w0 (w1.setCell ⟨bo, 0, none⟩ v') (it.and ((rowP n0 e size v' m ys).and ((boxP bo (.cells #[v'] t)).and R))) ∧ Gr ((rowP n0 e size v n xs).and ((boxP bo (.cells #[v] t)).and R)).own W (w1.setCell ⟨bo, 0, none⟩ v') ∧
      Grew W ((rowP n0 e size v n xs).and ((boxP bo (.cells #[v] t)).and R)).own ((rowP n0 e size v' m ys).and ((boxP bo (.cells #[v'] t)).and R)).own := by
  have hsa : (W.alloc tmp).heap.size = W.heap.size + 1 := World.size_alloc _ _
  have hs1 := hgrow.size
  have H1 := (H.rot).app hown hgrow hat
  have H2 := H1.rin.rot
  refine ⟨H2.q.1, ((H2.set v').rin.rot.rin), ?_, ?_⟩
  · have g1 : Gr (fun k => v.ownBlock = some k) W w1 := ⟨hgrow.1, hgrow.2, hgrow.3, by omega, fun k hk hr => (hgrow.block k (by omega) (fun e => hr e.symm)).trans (Below.heap_alloc _ _ _ hk)⟩
    have g2 := grownBy_setCell' w1 bo v'
    have g3 : Gr (fun k => k = bo) w1 (w1.setCell ⟨bo, 0, none⟩ v') := ⟨g2.1, g2.2, g2.3, g2.4, fun j hj hn => g2.5 j hj (fun e => hn (by cases e; rfl))⟩
    have m1 : Gr ((rowP n0 e size v n xs).and ((boxP bo (.cells #[v] t)).and R)).own W w1 := ⟨g1.os, g1.tape, g1.output, g1.size, fun k hk hn => g1.block k hk fun h => hn (.inl h)⟩
    exact ⟨g3.os.trans m1.os, g3.tape.trans m1.tape, g3.output.trans m1.output, Nat.le_trans m1.size g3.size, fun k hk hn => (g3.block k (Nat.lt_of_lt_of_le hk m1.size) fun h => hn (.inr (.inl h))).trans (m1.block k hk hn)⟩
  · rintro k (hk | hk)
    · rcases hat with h | h
      · exact .inl (.inl (h.symm.trans hk))
      · have hk' : v'.ownBlock = some k := hk
        rw [h] at hk'
        cases hk'
        exact .inr (by omega)
    · exact .inl (.inr hk)
theorem own_ex {β γ : Type} {B : Nat} {I : β → γ → World → Prop} (h : OwnFrom B (fun (p : β × γ) W => I p.1 p.2 W)) : OwnFrom B (fun s W => ∃ x, I s x W) := fun s W W' row ⟨x, hs⟩ hg hr => ⟨x, h (s, x) W W' row hs hg hr⟩
end Go.Proofs.YtfcmnkhfmofioaaDoor

namespace Go.Proofs.YtfcmnkhfmofioaaDoor
open Go.RowKit

def IsRow (k : IntKind) (w : World) (a : Option Addr) (len cap : Nat) (zs : List Int) : Prop :=
  (a = none ∧ len = 0 ∧ cap = 0 ∧ zs = []) ∨
  ∃ x, a = some x ∧ len ≤ cap ∧ cap ≤ maxLen ∧ zs.length = cap ∧ (∀ i, i < zs.length → w.cell? (x.add i) = some (.int k (zs.getD i 0))) ∧ ∀ n ∈ zs, (Lit.int k n).wf = true
theorem IsRow.below {k : IntKind} {w w' : World} {a : Option Addr} {len cap : Nat} {zs : List Int} (h : IsRow k w a len cap zs) (hb : Below w.heap.size w w') : IsRow k w' a len cap zs := by
  rcases h with h | ⟨x, h1, h2, h3, h4, h5, h6⟩
  · exact .inl h
  · exact .inr ⟨x, h1, h2, h3, h4, fun i hi => (hb.cell (p := x.add i) (World.block_lt_of_cell? w _ (h5 i hi))).trans (h5 i hi), h6⟩
theorem IsRow.len_ {k : IntKind} {w : World} {a : Option Addr} {len cap : Nat} {zs : List Int} (h : IsRow k w a len cap zs) : (zs.take len).length = len ∧ len ≤ maxLen := by
  rcases h with ⟨_, rfl, _, rfl⟩ | ⟨x, h1, h2, h3, h4, h5, h6⟩
  · exact ⟨rfl, Nat.zero_le _⟩
  · exact ⟨by rw [List.length_take, h4]; omega, by omega⟩
def byV (l : List Int) : List Value := l.map (Value.int .u8)
theorem info_byte : (Tryd.prog.info? 5).map (fun i => (i.zero, i.size, i.bytes)) = some (some (.int .u8 0), 1, 1) := by kernel_rfl
/-- All of them are appended. -/
theorem run_append_bytes (w : World) (base : Nat) (ty : TypeId) {v : Value} {n : Nat} {xs : List Value} {a : Option Addr} {len cap : Nat} {zs : List Int} (hown : w.ownsRow base 5 1 v n xs) (hr : IsRow .u8 w a len cap zs) (hn : n + len ≤ 100000000) (hb : base ≤ w.heap.size) :
    ∃ v' w', (Builtin.append_ #[22, 22] ty #[v, .slice a len cap]).run Tryd.prog w = .ok v' w' ∧ w'.ownsRow base 5 1 v' (n + len) (xs ++ byV (zs.take len)) ∧ w.grownBy w' v.ownBlock ∧ (v'.ownBlock = v.ownBlock ∨ v'.ownBlock = some w.heap.size) := by
  obtain ⟨i0, hi, hz0, hz1, hz2⟩ := info_parts info_byte
  rcases hr with ⟨rfl, rfl, rfl, rfl⟩ | ⟨x, rfl, h2, h3, h4, h5, h6⟩
  · refine ⟨v, w, run_append_owned_none w base 22 ty 5 i0 1 Tryd.underlying22 hi v n xs hown, ?_, gr_refl _ _, .inl rfl⟩
    simpa [byV] using hown
  · have hl : (byV (zs.take len)).length = len * 1 := by unfold byV; rw [List.length_map, List.length_take, h4]; omega
    have hnews : ∀ (j : Nat) (u : Value), (byV (zs.take len))[j]? = some u → w.cell? (x.add j) = some u := by
      intro j u hu
      unfold byV at hu
      have hj : j < len := by
        have := (List.getElem?_eq_some_iff.1 hu).1
        rw [List.length_map, List.length_take] at this
        omega
      have hjz : j < zs.length := by omega
      rw [List.getElem?_map, List.getElem?_take, if_pos hj, List.getElem?_eq_getElem hjz] at hu
      rw [h5 j hjz, List.getD, List.getElem?_eq_getElem hjz]
      exact hu
    obtain ⟨v', w', q1, q2, q3, _, q5⟩ := run_append_own_at (P := Tryd.prog) w base 22 ty 5 i0 (.int .u8 0) 1 1 Tryd.underlying22 hi hz0 hz1 hz2 rfl (by decide) v n xs hown x len cap (byV (zs.take len)) hl hnews (fun u hu => by
      unfold byV at hu
      obtain ⟨z, _, rfl⟩ := List.mem_map.1 hu
      rfl) (by unfold maxLen; omega) (by omega) hb
    exact ⟨v', w', q1, q2, q3, q5⟩
theorem wpList_append_bytes {w : World} {ops : Array Oper} {rest : List Oper} {o : Oper} {a : Act} {Q : Exit → Act → World → Prop} (hgd : o.guard = none) (s x : Operand) (ho : o.op = .call { callee := .builtin .append, args := #[s, x], argTypes := #[22, 22] })
    (base : Nat) (v : Value) (n : Nat) (xs : List Value) (hs : a.eval s = v) (hown : w.ownsRow base 5 1 v n xs) (b : Option Addr) (len cap : Nat) (zs : List Int) (hx : a.eval x = .slice b len cap) (hr : IsRow .u8 w b len cap zs) (hn : n + len ≤ 100000000) (hb : base ≤ w.heap.size)
    (h : ∀ v' w', w'.ownsRow base 5 1 v' (n + len) (xs ++ byV (zs.take len)) → w.grownBy w' v.ownBlock → (v'.ownBlock = v.ownBlock ∨ v'.ownBlock = some w.heap.size) → wpList Tryd.prog ops Q rest (a.put o.dst v') w') :
    wpList Tryd.prog ops Q (o :: rest) a w := by
  refine wpList_plain hgd fun K hK => ?_
  obtain ⟨v', w', hr, h2, h3, h5⟩ := run_append_bytes w base o.type hown hr hn hb
  unfold Oper.wp execOp
  simp only [ho, resolve, invoke, builtin, Sem.run_bind, Sem.run_pure, Result.andThen_ok, List.map_toArray, List.map_cons, List.map_nil, hs, hx, hr]
  exact hK _ _ (h v' w' h2 h3 h5)
end Go.Proofs.YtfcmnkhfmofioaaDoor

namespace Go.Proofs.YtfcmnkhfmofioaaDoor
open Go.RowKit

/-- Numbers that are bytes. -/
def Byt (zs : List Int) : Prop := ∀ z ∈ zs, 0 ≤ z ∧ z ≤ 255
/-- Bytes, given as numbers, as a string. -/
def strOf (zs : List Int) : ByteArray := ⟨(zs.map fun z => UInt8.ofNat z.toNat).toArray⟩
/-- Bytes as numbers. -/
def ints (l : List UInt8) : List Int := l.map fun c => (c.toNat : Int)
theorem ints_app (a b : List UInt8) : ints (a ++ b) = ints a ++ ints b := by unfold ints; rw [List.map_append]
theorem ints_len (a : List UInt8) : (ints a).length = a.length := by unfold ints; rw [List.length_map]
theorem ints_byt (l : List UInt8) : Byt (ints l) := by
  intro z hz
  unfold ints at hz
  obtain ⟨c, _, rfl⟩ := List.mem_map.1 hz
  have := c.toNat_lt
  omega
theorem strOf_ints (l : List UInt8) : strOf (ints l) = ⟨l.toArray⟩ := by
  unfold strOf ints
  rw [List.map_map]
  congr 2
  conv => rhs; rw [← List.map_id l]
  apply List.map_congr_left
  intro c _
  simp
/-- Bytes that lie in memory: a slice of them; none of them, or at least one. -/
structure Row1 (w : World) (a : Option Addr) (len cap : Nat) (es : List Int) (b off : Nat) : Prop where
  at_ : a = some ⟨b, off, none⟩
  one : 1 ≤ len
  cap_ : len ≤ cap
  len_ : es.length = len
  bd : Byt es
  cell : ∀ i, i < len → w.cell? ⟨b, off + i, none⟩ = some (.int .u8 (es.getD i 0))
  old : b < w.heap.size
def Bs (w : World) (a : Option Addr) (len cap : Nat) (es : List Int) : Prop :=
  (len = 0 ∧ es = [] ∧ (a = none → cap = 0)) ∨ ∃ b off, Row1 w a len cap es b off
theorem Row1.on {w w' : World} {a : Option Addr} {len cap : Nat} {es : List Int} {b off : Nat} (h : Row1 w a len cap es b off) (hb : Below w.heap.size w w') : Row1 w' a len cap es b off :=
  ⟨h.at_, h.one, h.cap_, h.len_, h.bd, fun i hi => (hb.cell (p := ⟨b, off + i, none⟩) h.old).trans (h.cell i hi), Nat.lt_of_lt_of_le h.old hb.size⟩
theorem Bs.on {w w' : World} {a : Option Addr} {len cap : Nat} {es : List Int} (h : Bs w a len cap es) (hb : Below w.heap.size w w') : Bs w' a len cap es := by
  rcases h with h | ⟨b, off, r⟩
  · exact .inl h
  · exact .inr ⟨b, off, r.on hb⟩
theorem Bs.len_ {w : World} {a : Option Addr} {len cap : Nat} {es : List Int} (h : Bs w a len cap es) : es.length = len := by
  rcases h with ⟨h1, h2, _⟩ | ⟨b, off, r⟩
  · rw [h1, h2]; rfl
  · exact r.len_
theorem Bs.bd {w : World} {a : Option Addr} {len cap : Nat} {es : List Int} (h : Bs w a len cap es) : Byt es := by
  rcases h with ⟨h1, h2, _⟩ | ⟨b, off, r⟩
  · rw [h2]; intro z hz; cases hz
  · exact r.bd
theorem add_at (b off i : Nat) : (⟨b, off, none⟩ : Addr).add i = ⟨b, off + i, none⟩ := by unfold Addr.add; split <;> simp_all
/-- 'string(x)' of bytes that lie in memory. -/
theorem conv_bs {w : World} {a : Option Addr} {len cap : Nat} {es : List Int} (h : Bs w a len cap es) :
    (convert 22 9 (.slice a len cap)).run Tryd.prog w = .ok (.string (strOf es)) w := by
  rcases h with ⟨rfl, rfl, _⟩ | ⟨b, off, r⟩
  · rw [run_convert_bytes_string w 22 9 5 _ 0 cap Tryd.underlying22 Tryd.underlying5 Tryd.underlying9]
    cases a <;> simp [Conv.bytesToString, loadCells] <;> rfl
  · rw [r.at_]
    have hn := r.len_
    have h := run_convert_bytes_back (P := Tryd.prog) w 22 9 5 ⟨b, off, none⟩ cap (es.map fun z => UInt8.ofNat z.toNat) Tryd.underlying22 Tryd.underlying5 Tryd.underlying9 (fun j hj => by
      have hj' : j < es.length := by simpa using hj
      rw [add_at, r.cell j (by omega)]
      have := r.bd _ (List.getElem_mem hj')
      simp only [List.getElem_map, UInt8.toNat_ofNat', List.getD, List.getElem?_eq_getElem hj', Option.getD_some]
      congr 2
      omega)
    rw [List.length_map, hn] at h
    exact h
theorem getD_ints (l : List UInt8) (i : Nat) (h : i < l.length) : (ints l).getD i 0 = (l[i].toNat : Int) := by
  unfold ints
  simp [List.getD, List.getElem?_eq_getElem h]
/-- '[]byte(s)': a row of its own that holds the bytes. -/
theorem bytes_of (S : ByteArray) (w : World) : ∃ C W3, (convert 9 22 (.string S)).run Tryd.prog w = .ok (.slice (some ⟨w.heap.size, 0, none⟩) S.size C) W3 ∧ S.size ≤ C ∧
    (∀ i, i < S.size → W3.cell? ⟨w.heap.size, i, none⟩ = some (.int .u8 ((ints S.data.toList).getD i 0))) ∧ (∀ i, i < S.size → W3.frozen? ⟨w.heap.size, i, none⟩ = false) ∧ Below w.heap.size w W3 ∧ w.heap.size < W3.heap.size := by
  have hr := run_bytes_of_string (P := Tryd.prog) w 9 22 5 S Tryd.underlying9 Tryd.underlying22 Tryd.underlying5
  have hge := grownCap_ge w S.size 0 5
  obtain ⟨C, hC⟩ : ∃ C, C = grownCap w S.size 0 5 := ⟨_, rfl⟩
  rw [← hC] at hr hge
  have hh : (w.drew.alloc (.cells (bytesRow S C) 5 ((bytesRow S C).size, (bytesRow S C).size + 1))).heap[w.heap.size]? = some (.cells (bytesRow S C) 5 ((bytesRow S C).size, (bytesRow S C).size + 1)) := by
    show (w.heap.push _)[w.heap.size]? = _
    simp
  have hsz : (bytesRow S C).size = C := by
    unfold bytesRow
    rw [Array.size_append, Array.size_map, Array.size_replicate]
    have : S.data.size = S.size := rfl
    omega
  refine ⟨C, _, hr, hge, fun i hi => ?_, fun i hi => ?_, ?_, ?_⟩
  · unfold World.cell?
    rw [hh]
    have hi2 : i < S.data.toList.length := by rw [Array.length_toList]; exact hi
    show (bytesRow S C)[i]? = _
    rw [getD_ints _ _ hi2]
    unfold bytesRow
    rw [Array.getElem?_append_left (by rw [Array.size_map]; exact hi), Array.getElem?_map]
    have hi3 : i < S.data.size := hi
    rw [Array.getElem?_eq_getElem hi3]
    rfl
  · unfold World.frozen?
    rw [hh]
    show (decide ((bytesRow S C).size ≤ i) && decide (i < (bytesRow S C).size + 1)) = false
    rw [hsz, decide_eq_false (by omega)]
    rfl
  · exact (Below.refl _ _).drew.alloc (Nat.le_refl _) _
  · show w.heap.size < (w.heap.push _).size
    simp
theorem set_bs {w W : World} {S : ByteArray} {C k : Nat} {t : Int} (hk : k < S.size) (ht : 0 ≤ t ∧ t ≤ 255) (hC : S.size ≤ C)
    (hc : ∀ i, i < S.size → W.cell? ⟨w.heap.size, i, none⟩ = some (.int .u8 ((ints S.data.toList).getD i 0))) (hs : w.heap.size < W.heap.size) :
    Bs (W.setCell ⟨w.heap.size, k, none⟩ (.int .u8 t)) (some ⟨w.heap.size, 0, none⟩) S.size C ((ints S.data.toList).set k t) := by
  have hl : S.data.toList.length = S.size := rfl
  refine .inr ⟨w.heap.size, 0, rfl, by omega, hC, by rw [List.length_set, ints_len]; rfl, fun z hz => ?_, fun i hi => ?_, by rw [World.size_setCell]; exact hs⟩
  · rcases List.mem_or_eq_of_mem_set hz with h | h
    · exact ints_byt _ z h
    · rw [h]; exact ht
  · rw [Nat.zero_add]
    have hil : i < (ints S.data.toList).length := by rw [ints_len]; omega
    by_cases hik : i = k
    · subst hik
      rw [World.cell?_setCell_same (h := hc i hk)]
      simp [List.getD, List.getElem?_set_self hil]
    · rw [World.cell?_setCell_other (h := fun e => hik (congrArg Addr.off e).symm), hc i hi]
      simp [List.getD, List.getElem?_set_ne (fun e : k = i => hik e.symm)]
theorem strOf_set (l : List UInt8) (k : Nat) (t : Int) : (strOf ((ints l).set k t)).data.toList = l.set k (UInt8.ofNat t.toNat) := by
  unfold strOf ints
  show (List.map _ _) = _
  rw [List.map_set, List.map_map]
  congr 1
  conv => rhs; rw [← List.map_id l]
  apply List.map_congr_left
  intro c _
  simp
/-- '[]byte{c}': one byte, in a new row. -/
theorem one_bs (w : World) (c : Int) (h0 : 0 ≤ c) (h1 : c ≤ 255) : Bs (w.alloc (.cells #[.int .u8 c] 5)) (some ⟨w.heap.size, 0, none⟩) 1 1 [c] := by
  refine .inr ⟨_, 0, rfl, by decide, by decide, rfl, (by intro z hz; simp at hz; omega), fun i hi => ?_, by simp⟩
  have : i = 0 := by omega
  subst this
  have hh : (w.alloc (Obj.cells #[Value.int .u8 c] 5)).heap[w.heap.size]? = some (Obj.cells #[Value.int .u8 c] 5) := by
    show (w.heap.push _)[w.heap.size]? = _
    simp
  unfold World.cell?
  rw [hh]
  rfl
end Go.Proofs.YtfcmnkhfmofioaaDoor

namespace Go.Proofs.YtfcmnkhfmofioaaDoor
open Go.RowKit

/-- Bytes as cells. -/
def byU (l : List UInt8) : List Value := byV (ints l)
theorem byU_len (l : List UInt8) : (byU l).length = l.length := by unfold byU byV; rw [List.length_map, ints_len]
theorem byU_get {l : List UInt8} {i : Nat} (h : i < l.length) : (byU l)[i]? = some (.int .u8 ((ints l).getD i 0)) := by
  unfold byU byV
  have : i < (ints l).length := by rw [ints_len]; exact h
  rw [List.getElem?_map, List.getElem?_eq_getElem this]
  simp [List.getD, List.getElem?_eq_getElem this]
/-- A value's bytes, in a row of its own. -/
def ValAt (n0 : Nat) (w : World) (a : Option Addr) (c : Nat) (l : List UInt8) : Prop := w.ownsRow n0 5 1 (.slice a l.length c) l.length (byU l)
theorem ValAt.bs {n0 : Nat} {w : World} {a : Option Addr} {c : Nat} {l : List UInt8} (h : ValAt n0 w a c l) : Bs w a l.length c (ints l) := by
  by_cases h0 : l.length = 0
  · refine .inl ⟨h0, ?_, fun ha => ?_⟩
    · rw [List.eq_nil_of_length_eq_zero h0]
      rfl
    · subst ha
      rcases h.2 with ⟨h1, _⟩ | ⟨g, cap, cur, h1, _⟩
      · exact (Value.slice.inj h1).2.2
      · cases h1
  · obtain ⟨g, cap, e⟩ := own_form h (by omega)
    cases e
    have hc := own_cap h
    refine .inr ⟨g, 0, rfl, by omega, hc.1, ints_len l, ints_byt l, fun i hi => ?_, (own_at h rfl).2.1⟩
    have h' : w.ownsRow n0 5 1 (.slice (some ⟨g, 0, none⟩) l.length c) l.length (byU l) := h
    rw [Nat.zero_add, h'.cellAt i (by omega), byU_get hi]
theorem ValAt.base {n0 n1 : Nat} {w : World} {a : Option Addr} {c : Nat} {l : List UInt8} (h : ValAt n0 w a c l) (hn : n1 ≤ n0) : ValAt n1 w a c l := by
  refine ⟨h.1, ?_⟩
  rcases h.2 with h1 | ⟨g, cap, cur, h1, h2, h3⟩
  · exact .inl h1
  · exact .inr ⟨g, cap, cur, h1, Nat.le_trans hn h2, h3⟩
/-- All of them are appended. -/
theorem run_append_bs (w : World) (base : Nat) (ty : TypeId) {v : Value} {n : Nat} {xs : List Value} {a : Option Addr} {len cap : Nat} {l : List UInt8} (hown : w.ownsRow base 5 1 v n xs) (hl : l.length = len) (hr : Bs w a len cap (ints l)) (hn : n + len ≤ 100000000) (hb : base ≤ w.heap.size) :
    ∃ v' w', (Builtin.append_ #[22, 22] ty #[v, .slice a len cap]).run Tryd.prog w = .ok v' w' ∧ w'.ownsRow base 5 1 v' (n + len) (xs ++ byU l) ∧ w.grownBy w' v.ownBlock ∧ (v'.ownBlock = v.ownBlock ∨ v'.ownBlock = some w.heap.size) := by
  obtain ⟨i0, hi, hz0, hz1, hz2⟩ := info_parts info_byte
  cases a with
  | none =>
    obtain ⟨rfl, h0, hc⟩ : len = 0 ∧ ints l = [] ∧ cap = 0 := by
      rcases hr with ⟨h1, h2, h3⟩ | ⟨b, off, r⟩
      · exact ⟨h1, h2, h3 rfl⟩
      · cases r.at_
    subst hc
    refine ⟨v, w, run_append_owned_none w base 22 ty 5 i0 1 Tryd.underlying22 hi v n xs hown, ?_, gr_refl _ _, .inl rfl⟩
    unfold byU
    rw [h0]
    simpa [byV] using hown
  | some x =>
    have hlb : (byU l).length = len * 1 := by rw [byU_len, hl, Nat.mul_one]
    have hnews : ∀ (j : Nat) (u : Value), (byU l)[j]? = some u → w.cell? (x.add j) = some u := by
      intro j u hu
      have hj : j < len := by
        have := (List.getElem?_eq_some_iff.1 hu).1
        rw [byU_len] at this
        omega
      rcases hr with ⟨h1, _⟩ | ⟨b, off, r⟩
      · omega
      · obtain rfl : x = ⟨b, off, none⟩ := Option.some.inj r.at_
        rw [add_at, r.cell j hj, ← hu, byU_get (by omega)]
    obtain ⟨v', w', q1, q2, q3, _, q5⟩ := run_append_own_at (P := Tryd.prog) w base 22 ty 5 i0 (.int .u8 0) 1 1 Tryd.underlying22 hi hz0 hz1 hz2 rfl (by decide) v n xs hown x len cap (byU l) hlb hnews (fun u hu => by
      unfold byU byV at hu
      obtain ⟨z, _, rfl⟩ := List.mem_map.1 hu
      rfl) (by unfold maxLen; omega) (by omega) hb
    exact ⟨v', w', q1, q2, q3, q5⟩
theorem wpList_append_bs {w : World} {ops : Array Oper} {rest : List Oper} {o : Oper} {a : Act} {Q : Exit → Act → World → Prop} (hgd : o.guard = none) (s x : Operand) (ho : o.op = .call { callee := .builtin .append, args := #[s, x], argTypes := #[22, 22] })
    (base : Nat) (v : Value) (n : Nat) (xs : List Value) (hs : a.eval s = v) (hown : w.ownsRow base 5 1 v n xs) (b : Option Addr) (len cap : Nat) (l : List UInt8) (hx : a.eval x = .slice b len cap) (hl : l.length = len) (hr : Bs w b len cap (ints l)) (hn : n + len ≤ 100000000) (hb : base ≤ w.heap.size)
    (h : ∀ v' w', w'.ownsRow base 5 1 v' (n + len) (xs ++ byU l) → w.grownBy w' v.ownBlock → (v'.ownBlock = v.ownBlock ∨ v'.ownBlock = some w.heap.size) → wpList Tryd.prog ops Q rest (a.put o.dst v') w') :
    wpList Tryd.prog ops Q (o :: rest) a w := by
  refine wpList_plain hgd fun K hK => ?_
  obtain ⟨v', w', hr, h2, h3, h5⟩ := run_append_bs w base o.type hown hl hr hn hb
  unfold Oper.wp execOp
  simp only [ho, resolve, invoke, builtin, Sem.run_bind, Sem.run_pure, Result.andThen_ok, List.map_toArray, List.map_cons, List.map_nil, hs, hx, hr]
  exact hK _ _ (h v' w' h2 h3 h5)
theorem Bs.alloc {w : World} {a : Option Addr} {len cap : Nat} {es : List Int} (h : Bs w a len cap es) (o : Obj) : Bs (w.alloc o) a len cap es := h.on (below_gr (World.grownBy_alloc w o none))
theorem owns_empty (w : World) : (w.alloc (.cells #[] 5)).ownsRow w.heap.size 5 1 (.slice (some ⟨w.heap.size, 0, none⟩) 0 0) 0 [] :=
  ⟨rfl, .inr ⟨w.heap.size, 0, #[], rfl, Nat.le_refl _, World.alloc_heap_new w _, Nat.le_refl _, Nat.zero_le _, rfl, rfl⟩⟩
theorem eql_nil (a : Option Addr) (n c : Nat) (w : World) : (binOp .eql 22 (.slice a n c) (.slice none 0 0)).run Tryd.prog w = .ok (.bool a.isNone) w := by
  simp only [binOp]
  simp [run_equal_slice_nil w 22 5 a n c Tryd.underlying22]
/-- Bytes that came in. -/
theorem rowU {w : World} {a : Option Addr} {len cap : Nat} {zs : List Int} (h : IsRow .u8 w a len cap zs) : ∃ u : List UInt8, u.length = len ∧ Bs w a len cap (ints u) ∧ cap ≤ maxLen ∧ len ≤ cap := by
  rcases h with ⟨rfl, rfl, rfl, rfl⟩ | ⟨x, rfl, h2, h3, h4, h5, h6⟩
  · exact ⟨[], rfl, .inl ⟨rfl, rfl, fun _ => rfl⟩, Nat.zero_le _, Nat.le_refl _⟩
  · obtain ⟨u, hu⟩ : ∃ u : List UInt8, zs.take len = ints u := by
      refine ⟨(zs.take len).map fun z => UInt8.ofNat z.toNat, ?_⟩
      unfold ints
      rw [List.map_map]
      conv => lhs; rw [← List.map_id (zs.take len)]
      apply List.map_congr_left
      intro z hz
      have := u8_wf (h6 z (List.mem_of_mem_take hz))
      simp only [Function.comp, UInt8.toNat_ofNat', id]
      omega
    have hul : u.length = len := by rw [← ints_len, ← hu, List.length_take]; omega
    refine ⟨u, hul, ?_, h3, h2⟩
    rw [← hu]
    by_cases h0 : len = 0
    · exact .inl ⟨h0, by rw [h0]; rfl, fun e => by cases e⟩
    · have c0 := h5 0 (by omega)
      have hspot : x.spot = none := by simpa [Addr.add] using World.cell?_spot c0
      obtain ⟨b, off, spot⟩ := x
      simp only at hspot
      subst hspot
      refine .inr ⟨b, off, rfl, by omega, h2, by rw [List.length_take]; omega, fun z hz' => u8_wf (h6 z (List.mem_of_mem_take hz')), fun i hi => ?_, ?_⟩
      · have h1 := h5 i (by omega)
        rw [add_at] at h1
        rw [h1]
        congr 2
        simp [List.getD, hi]
      · rw [add_at] at c0
        exact World.block_lt_of_cell? w _ c0
/-- A row of bytes: where it lies, and that its length is within its room. -/
structure Bu (w : World) (a : Option Addr) (len cap : Nat) (l : List UInt8) : Prop where
  n : l.length = len
  b : Bs w a len cap (ints l)
  c : len ≤ cap
  m : cap ≤ maxLen
theorem Bu.on {w w' : World} {a : Option Addr} {len cap : Nat} {l : List UInt8} (h : Bu w a len cap l) (hb : Below w.heap.size w w') : Bu w' a len cap l := ⟨h.n, h.b.on hb, h.c, h.m⟩
theorem Bu.alloc {w : World} {a : Option Addr} {len cap : Nat} {l : List UInt8} (h : Bu w a len cap l) (o : Obj) : Bu (w.alloc o) a len cap l := ⟨h.n, h.b.alloc o, h.c, h.m⟩
theorem Bu.drew {w : World} {a : Option Addr} {len cap : Nat} {l : List UInt8} (h : Bu w a len cap l) : Bu w.drew a len cap l := h.on (Below.drew (Below.refl _ _))
theorem Bu.of {w : World} {a : Option Addr} {len cap : Nat} {zs : List Int} (h : IsRow .u8 w a len cap zs) : ∃ u : List UInt8, Bu w a len cap u := by
  obtain ⟨u, h1, h2, h3, h4⟩ := rowU h
  exact ⟨u, h1, h2, h4, h3⟩
theorem ValAt.bu {n0 : Nat} {w : World} {a : Option Addr} {c : Nat} {l : List UInt8} (h : ValAt n0 w a c l) : Bu w a l.length c l := ⟨rfl, h.bs, (own_cap h).1, (own_cap h).2⟩
/-- 'b[i:j]' of bytes: the first j, without the first i, whatever room is told; as an equation of every world. -/
theorem getD_cut (l : List UInt8) (i k : Nat) : (ints ((l.drop i))).getD k 0 = (ints l).getD (i + k) 0 := by
  unfold ints
  simp [List.getD, List.getElem?_drop]
theorem getD_take (l : List UInt8) {j k : Nat} (h : k < j) : (ints ((l.take j))).getD k 0 = (ints l).getD k 0 := by
  unfold ints
  simp [List.getD, h]
/-- 'b[:j:j]' -/
theorem Bu.front {w : World} {a : Option Addr} {len cap : Nat} {l : List UInt8} (h : Bu w a len cap l) {j c : Nat} (hj : j ≤ len) (hc : j ≤ c) (hc2 : c ≤ cap) : Bu w a j c (l.take j) := by
  refine ⟨by rw [List.length_take, h.n]; omega, ?_, hc, Nat.le_trans hc2 h.m⟩
  by_cases h0 : j = 0
  · refine .inl ⟨h0, by rw [h0]; rfl, fun ha => ?_⟩
    rcases h.b with ⟨h1, h2, h3⟩ | ⟨b, off, r⟩
    · have := h3 ha; omega
    · rw [ha] at r; cases r.at_
  · rcases h.b with ⟨h1, h2, h3⟩ | ⟨b, off, r⟩
    · omega
    · refine .inr ⟨b, off, r.at_, by omega, hc, by rw [ints_len, List.length_take, h.n]; omega, ints_byt _, fun i hi => ?_, r.old⟩
      rw [r.cell i (by omega), getD_take l hi]
/-- 'b[i:]' -/
theorem Bu.back {w : World} {a : Option Addr} {len cap : Nat} {l : List UInt8} (h : Bu w a len cap l) {i : Nat} (hi : i ≤ len) : ∃ a', (∀ W : World, (Instr.sliceAt 22 (.slice a len cap) (some (.int .i64 (i : Int))) none none).run Tryd.prog W = .ok (.slice a' (len - i) (cap - i)) W) ∧
    ∀ W : World, Bu W a len cap l → Bu W a' (len - i) (cap - i) (l.drop i) := by
  have hc := h.c
  have h1 : (i : Int) ≤ (len : Int) := by omega
  have h0 : ¬ (i : Int) < 0 := by omega
  by_cases e : cap = i
  · refine ⟨a, fun W => ?_, fun W H => ⟨by rw [List.length_drop, H.n], .inl ⟨by omega, by rw [List.drop_eq_nil_of_le (by rw [H.n]; omega)]; rfl, fun _ => by omega⟩, by omega, by have := H.m; omega⟩⟩
    subst e
    cases a <;> go_simp
  · cases a with
    | none =>
      rcases h.b with ⟨_, _, h3⟩ | ⟨b, off, r⟩
      · have := h3 rfl; omega
      · cases r.at_
    | some x =>
      refine ⟨some (x.add i), fun W => ?_, fun W H => ⟨by rw [List.length_drop, H.n], ?_, by omega, by have := H.m; omega⟩⟩
      · go_simp
      · by_cases hz : len - i = 0
        · exact .inl ⟨hz, by rw [List.drop_eq_nil_of_le (by rw [H.n]; omega)]; rfl, fun e => by cases e⟩
        · rcases H.b with ⟨h4, _, _⟩ | ⟨b, off, r⟩
          · omega
          · obtain rfl : x = ⟨b, off, none⟩ := Option.some.inj r.at_
            refine .inr ⟨b, off + i, by rw [add_at], by omega, by omega, by rw [ints_len, List.length_drop, H.n], ints_byt _, fun k hk => ?_, r.old⟩
            rw [Nat.add_assoc, r.cell (i + k) (by omega), getD_cut]
/-- 'b[i:j:j]' -/
theorem Bu.mid {w : World} {a : Option Addr} {len cap : Nat} {l : List UInt8} (h : Bu w a len cap l) {i j m : Nat} (hm : i + m = j) (h0 : 1 ≤ m) (hj : j ≤ len) (zj : Int) (hz : zj = (j : Int)) : ∃ a', (∀ W : World, (Instr.sliceAt 22 (.slice a len cap) (some (.int .i64 (i : Int))) (some (.int .i64 zj)) (some (.int .i64 zj))).run Tryd.prog W = .ok (.slice a' m m) W) ∧
    Bu w a' m m ((l.drop i).take m) := by
  have hc := h.c
  rcases h.b with ⟨h4, _, _⟩ | ⟨b, off, r⟩
  · omega
  · refine ⟨some ⟨b, off + i, none⟩, fun W => ?_, by rw [List.length_take, List.length_drop, h.n]; omega, .inr ⟨b, off + i, rfl, h0, Nat.le_refl _, by rw [ints_len, List.length_take, List.length_drop, h.n]; omega, ints_byt _, fun k hk => ?_, r.old⟩, Nat.le_refl _, by have := h.m; omega⟩
    · have e := r.at_
      subst e hz
      have h1 : (j : Int) ≤ (cap : Int) := by omega
      have h2 : (i : Int) ≤ (j : Int) := by omega
      have h3 : ¬ j = i := by omega
      have h4 : j - i = m := by omega
      go_simp
    · rw [Nat.add_assoc, r.cell (i + k) (by omega), getD_take _ hk, getD_cut]
/-- One byte of a row. -/
theorem Bu.cell {w : World} {a : Option Addr} {len cap : Nat} {l : List UInt8} (h : Bu w a len cap l) (h1 : 1 ≤ len) : ∃ b off, a = some ⟨b, off, none⟩ ∧ ∀ i, ∀ hi : i < l.length, w.cell? ⟨b, off + i, none⟩ = some (.int .u8 (l[i].toNat : Int)) := by
  rcases h.b with ⟨h4, _, _⟩ | ⟨b, off, r⟩
  · omega
  · refine ⟨b, off, r.at_, fun i hi => ?_⟩
    rw [r.cell i (by rw [← h.n]; exact hi), getD_ints l i hi]
end Go.Proofs.YtfcmnkhfmofioaaDoor
