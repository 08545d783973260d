/- Requests of the text dialect, as values: what chapter 14 says. Conditions: none. Worlds that go on: what is new, what is written. Conditions: none. -/
import Derived.Test.YthofdmepofepgaaDoorG00Joined
import Derived.Test.YthofdmepofepgaaDoorG02Joined
import Derived.Laws.AppendOwn
namespace Go.Proofs.YthofdmepofepgaaDoor
/- The words that lines begin with, and the others of the dialect. -/
def vb_get : List UInt8 := [103, 101, 116]
def vb_gets : List UInt8 := [103, 101, 116, 115]
def vb_gat : List UInt8 := [103, 97, 116]
def vb_gats : List UInt8 := [103, 97, 116, 115]
def vb_set : List UInt8 := [115, 101, 116]
def vb_cas : List UInt8 := [99, 97, 115]
def vb_add : List UInt8 := [97, 100, 100]
def vb_replace : List UInt8 := [114, 101, 112, 108, 97, 99, 101]
def vb_append : List UInt8 := [97, 112, 112, 101, 110, 100]
def vb_prepend : List UInt8 := [112, 114, 101, 112, 101, 110, 100]
def vb_delete : List UInt8 := [100, 101, 108, 101, 116, 101]
def vb_incr : List UInt8 := [105, 110, 99, 114]
def vb_decr : List UInt8 := [100, 101, 99, 114]
def vb_touch : List UInt8 := [116, 111, 117, 99, 104]
def vb_flush : List UInt8 := [102, 108, 117, 115, 104, 95, 97, 108, 108]
def vb_version : List UInt8 := [118, 101, 114, 115, 105, 111, 110]
def vb_quit : List UInt8 := [113, 117, 105, 116]
def t_noreply : List UInt8 := [110, 111, 114, 101, 112, 108, 121]
def t_ERROR : List UInt8 := [69, 82, 82, 79, 82]
def t_bad : List UInt8 := [67, 76, 73, 69, 78, 84, 95, 69, 82, 82, 79, 82, 32, 98, 97, 100, 32, 99, 111, 109, 109, 97, 110, 100, 32, 108, 105, 110, 101, 32, 102, 111, 114, 109, 97, 116]
def t_delta : List UInt8 := [67, 76, 73, 69, 78, 84, 95, 69, 82, 82, 79, 82, 32, 105, 110, 118, 97, 108, 105, 100, 32, 110, 117, 109, 101, 114, 105, 99, 32, 100, 101, 108, 116, 97, 32, 97, 114, 103, 117, 109, 101, 110, 116]
def t_chunk : List UInt8 := [67, 76, 73, 69, 78, 84, 95, 69, 82, 82, 79, 82, 32, 98, 97, 100, 32, 100, 97, 116, 97, 32, 99, 104, 117, 110, 107]
def t_long : List UInt8 := [67, 76, 73, 69, 78, 84, 95, 69, 82, 82, 79, 82, 32, 108, 105, 110, 101, 32, 116, 111, 111, 32, 108, 111, 110, 103]
def t_large : List UInt8 := [83, 69, 82, 86, 69, 82, 95, 69, 82, 82, 79, 82, 32, 111, 98, 106, 101, 99, 116, 32, 116, 111, 111, 32, 108, 97, 114, 103, 101, 32, 102, 111, 114, 32, 99, 97, 99, 104, 101]
def t_end : List UInt8 := [13, 10]
/-- The kind of command that a first word asks for. -/
def opN (v : List UInt8) : Option Int :=
  if v = vb_get ∨ v = vb_gets then some 0
  else if v = vb_gat ∨ v = vb_gats then some 1
  else if v = vb_set ∨ v = vb_cas then some 3
  else if v = vb_add then some 4
  else if v = vb_replace then some 5
  else if v = vb_append then some 6
  else if v = vb_prepend then some 7
  else if v = vb_delete then some 8
  else if v = vb_incr then some 10
  else if v = vb_decr then some 11
  else if v = vb_touch then some 2
  else if v = vb_flush then some 13
  else if v = vb_version then some 15
  else if v = vb_quit then some 16
  else none
/-- A request whose line is being read: its form, its commands' parts, the size of its body. -/
structure Dv where
  verb : List UInt8
  dia : Int
  quiet : Bool
  wcas : Bool
  keys : List (List UInt8)
  op : Int
  val : List UInt8
  fl : Int
  exp : Int
  cas : Int
  del : Int
  size : Int
  sized : Bool
def zeroD : Dv := ⟨[], 0, false, false, [], 0, [], 0, 0, 0, 0, 0, false⟩
def begun (v : List UInt8) : Dv := ⟨v, 1, false, decide (v = vb_gets ∨ v = vb_gats), [], (opN v).getD 0, [], 0, 0, 0, 0, 0, false⟩
/-- May a command be quiet? -/
def mayQ (op : Int) : Bool := !(decide (op = 0 ∨ op = 1 ∨ op = 15 ∨ op = 16))
def quietN (op : Int) (ws : List (List UInt8)) (many : Nat) : Bool := mayQ op && decide (ws.length = many + 1) && decide (ws[many]? = some t_noreply)
/-- How each word behind the first is read: 0 a key, 1 EXP, 2 DELTA, 3 FLAGS, 4 BYTES, 5 CAS. -/
def partsN (op : Int) (v : List UInt8) (ws : List (List UInt8)) : List Nat :=
  if op = 0 then List.replicate (max ws.length 1) 0
  else if op = 1 then 1 :: List.replicate (max (ws.length - 1) 1) 0
  else if 3 ≤ op ∧ op ≤ 7 then (if v = vb_cas then [0, 3, 1, 4, 5] else [0, 3, 1, 4])
  else if op = 8 then [0]
  else if op = 10 ∨ op = 11 then [0, 2]
  else if op = 2 then [0, 1]
  else if op = 13 then (if ws ≠ [] ∧ quietN op ws 0 = false then [1] else [])
  else []
def faultK (k : Nat) : List UInt8 := if k = 2 then t_delta else t_bad
def mostK (k : Nat) : Nat := if k = 3 then 4294967295 else 18446744073709551615
def keepK (k : Nat) (d : Dv) (u : Nat) : Dv :=
  if k = 2 then { d with del := u }
  else if k = 3 then { d with fl := u }
  else if k = 4 then { d with size := u, sized := true }
  else { d with cas := u }
/-- One word is read: what is known then, and its fault, if it has one. -/
def readW (k : Nat) (d : Dv) (x : List UInt8) : Dv × List UInt8 :=
  if k = 0 then ({ d with keys := d.keys ++ [x] }, if keyN x = true ∧ d.keys.length + 1 ≤ 16 then [] else t_bad)
  else if k = 1 then (match sgn x with | some z => ({ d with exp := z }, []) | none => (d, t_bad))
  else match dec x with
    | some u => if u ≤ mostK k then (keepK k d u, []) else (d, faultK k)
    | none => (d, faultK k)
/-- The words are read, one by one; the first fault is kept. -/
def runR : List Nat → List (List UInt8) → Dv → List UInt8 → Dv × List UInt8
  | k :: ks, x :: xs, d, f => runR ks xs (readW k d x).1 (if f = [] then (readW k d x).2 else f)
  | _, _, d, f => (d, f)
def largeN (r : Dv × List UInt8) : Dv × List UInt8 := (r.1, if r.2 = [] ∧ 1000 < r.1.size then t_large else r.2)
/-- The words behind a first one that there is. -/
def behindN (v : List UInt8) (ws : List (List UInt8)) : Dv × List UInt8 :=
  let d := begun v
  let ks := partsN d.op v ws
  let q := quietN d.op ws ks.length
  let d1 := if q then { d with quiet := true } else d
  let ws1 := if q then ws.take ks.length else ws
  if ws1.length = ks.length then largeN (runR ks ws1 d1 []) else (d1, t_ERROR)
def readN : List (List UInt8) → Dv × List UInt8
  | [] => (zeroD, t_ERROR)
  | v :: ws => if opN v = none then (begun v, t_ERROR) else behindN v ws
/-- What package textin's draft reads: the size of the body is not held against its bound yet. -/
def rawB (v : List UInt8) (ws : List (List UInt8)) : Dv × List UInt8 :=
  let d := begun v
  let ks := partsN d.op v ws
  let q := quietN d.op ws ks.length
  let d1 := if q then { d with quiet := true } else d
  let ws1 := if q then ws.take ks.length else ws
  if ws1.length = ks.length then runR ks ws1 d1 [] else (d1, t_ERROR)
def rawN : List (List UInt8) → Dv × List UInt8
  | [] => (zeroD, t_ERROR)
  | v :: ws => if opN v = none then (begun v, t_ERROR) else rawB v ws
theorem large_error (d : Dv) : largeN (d, t_ERROR) = (d, t_ERROR) := by
  unfold largeN
  rw [if_neg (fun h => by cases h.1)]
theorem readN_raw (ws : List (List UInt8)) : readN ws = largeN (rawN ws) := by
  cases ws with
  | nil => exact (large_error zeroD).symm
  | cons v ws =>
    show (if opN v = none then (begun v, t_ERROR) else behindN v ws) = largeN (if opN v = none then (begun v, t_ERROR) else rawB v ws)
    split
    · exact (large_error _).symm
    · unfold behindN rawB
      simp only []
      rw [apply_ite largeN, large_error]
def skipN (d : Dv) : Int := if d.sized = true ∧ d.size ≤ 1073741824 then d.size + 2 else 0
def cmdD (d : Dv) (key : List UInt8) : Cv := ⟨d.op, mkB key, d.val, d.fl, d.exp, d.cas, d.del, 0, false, false⟩
def formD (d : Dv) : Fv := ⟨d.dia, mkB d.verb, 0, 0, d.quiet, d.wcas, ⟨#[]⟩, [], d.keys.map mkB, false⟩
def reqD (d : Dv) : Qv := ⟨if d.keys = [] then [cmdD d []] else d.keys.map (cmdD d), formD d⟩
def moreS : Sv := ⟨noQ, ⟨#[]⟩, 0, 0, false, 3⟩
def refuseS (f : List UInt8) (used : Int) : Sv := ⟨noQ, mkB (f ++ t_end), used, 0, false, 2⟩
/-- A line's request, with its body out of what is behind it. -/
def finishN (d : Dv) (rest : List UInt8) (used : Int) : Sv :=
  if d.sized = false then ⟨reqD d, ⟨#[]⟩, used, 0, false, 0⟩
  else if (bodyN rest d.size).2.2 = 3 then moreS
  else if (bodyN rest d.size).2.2 = 2 then { refuseS t_chunk (used + (bodyN rest d.size).2.1) with line := true }
  else ⟨reqD { d with val := (bodyN rest d.size).1 }, ⟨#[]⟩, used + (bodyN rest d.size).2.1, 0, false, 0⟩
def lineS (ws : List (List UInt8)) (rest : List UInt8) (used : Int) : Sv :=
  if (readN ws).2 = [] then finishN (readN ws).1 rest used else { refuseS (readN ws).2 used with skip := skipN (readN ws).1 }
def wordsL (l : List UInt8) : List (List UInt8) := restL l 0 0
/-- P14.1 to P14.4. -/
def parseN (l : List UInt8) : Sv :=
  if (lineN l).2.2 = 3 then moreS
  else if (lineN l).2.2 = 4 then { refuseS t_long (lineN l).2.1 with line := (cutL l).isNone }
  else lineS (wordsL (lineN l).1) (l.drop (lineN l).2.1.toNat) (lineN l).2.1
theorem wordsB_L (s : ByteArray) : wordsB s = (wordsL s.data.toList).map mkB := rfl
end Go.Proofs.YthofdmepofepgaaDoor

namespace Go.Proofs.YthofdmepofepgaaDoor
open Go.RowKit

theorem gr_refl (w : World) (row : Option Nat) : w.grownBy w row := ⟨rfl, rfl, rfl, Nat.le_refl _, fun _ _ _ => rfl⟩
theorem gr_any {a b : World} (h : a.grownBy b none) (row : Option Nat) : a.grownBy b row := ⟨h.1, h.2, h.3, h.4, fun k hk _ => h.5 k hk (by simp)⟩
theorem gr_trans {a b c : World} {row : Option Nat} (h : a.grownBy b row) (k : b.grownBy c row) : a.grownBy c row :=
  ⟨k.1.trans h.1, k.2.trans h.2, k.3.trans h.3, Nat.le_trans h.4 k.4, fun i hi hr => (k.5 i (Nat.lt_of_lt_of_le hi h.4) hr).trans (h.5 i hi hr)⟩
/-- What is written is new. -/
theorem gr_new {a b c : World} {row : Option Nat} {n : Nat} (h : a.grownBy b row) (k : b.grownBy c (some n)) (hn : a.heap.size ≤ n) : a.grownBy c row :=
  ⟨k.1.trans h.1, k.2.trans h.2, k.3.trans h.3, Nat.le_trans h.4 k.4, fun i hi hr => (k.5 i (Nat.lt_of_lt_of_le hi h.4) (fun e => by cases e; omega)).trans (h.5 i hi hr)⟩
theorem gr_below {w a b : World} {row : Option Nat} (hB : Below w.heap.size w a) (h : a.grownBy b row) (hr : ∀ n, row = some n → w.heap.size ≤ n) : Below w.heap.size w b := hB.grown h hB.size hr
theorem gr_of_below {a b : World} (h : Below a.heap.size a b) : a.grownBy b none := ⟨h.os, h.tape, h.output, h.size, fun k hk _ => h.block k hk⟩
theorem below_gr {a b : World} (h : a.grownBy b none) : Below a.heap.size a b := (Below.refl _ _).grown h (Nat.le_refl _) (fun _ e => by cases e)
/-- The world goes on, and writes at most what F names and what is new. -/
structure Gr (F : Nat → Prop) (w w' : World) : Prop where
  os : w'.os = w.os
  tape : w'.tape = w.tape
  output : w'.output = w.output
  size : w.heap.size ≤ w'.heap.size
  block : ∀ k, k < w.heap.size → ¬ F k → w'.heap[k]? = w.heap[k]?
theorem Gr.refl (F : Nat → Prop) (w : World) : Gr F w w := ⟨rfl, rfl, rfl, Nat.le_refl _, fun _ _ _ => rfl⟩
theorem Gr.trans {F : Nat → Prop} {a b c : World} (h : Gr F a b) (k : Gr F b c) : Gr F a c :=
  ⟨k.os.trans h.os, k.tape.trans h.tape, k.output.trans h.output, Nat.le_trans h.size k.size, fun i hi hr => (k.block i (Nat.lt_of_lt_of_le hi h.size) hr).trans (h.block i hi hr)⟩
/-- What the second step writes besides is new. -/
theorem Gr.then {F G : Nat → Prop} {a b c : World} (h : Gr F a b) (k : Gr G b c) (hG : ∀ i, i < a.heap.size → G i → F i) : Gr F a c :=
  ⟨k.os.trans h.os, k.tape.trans h.tape, k.output.trans h.output, Nat.le_trans h.size k.size, fun i hi hr => (k.block i (Nat.lt_of_lt_of_le hi h.size) (fun hg => hr (hG i hi hg))).trans (h.block i hi hr)⟩
theorem Gr.below {F : Nat → Prop} {w a b : World} (hB : Below w.heap.size w a) (h : Gr F a b) (hF : ∀ k, F k → w.heap.size ≤ k) : Below w.heap.size w b :=
  ⟨h.os.trans hB.os, h.tape.trans hB.tape, h.output.trans hB.output, Nat.le_trans hB.size h.size, fun k hk => (h.block k (Nat.lt_of_lt_of_le hk hB.size) (fun hf => by have := hF k hf; omega)).trans (hB.block k hk)⟩
theorem Gr.of {w w' : World} {row : Option Nat} (h : w.grownBy w' row) : Gr (fun k => row = some k) w w' := ⟨h.1, h.2, h.3, h.4, fun k hk hr => h.5 k hk (fun e => hr e.symm)⟩
theorem Gr.to {F : Nat → Prop} {w w' : World} {row : Option Nat} (h : Gr F w w') (hF : ∀ k, F k → row = some k) : w.grownBy w' row := ⟨h.os, h.tape, h.output, h.size, fun k hk hr => h.block k hk (fun hf => hr (hF k hf).symm)⟩
/-- What it owns behind a step was its own, or is new. -/
def Grew (w : World) (own own' : Nat → Prop) : Prop := ∀ k, own' k → own k ∨ w.heap.size ≤ k
end Go.Proofs.YthofdmepofepgaaDoor
