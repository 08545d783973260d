/- Two steps held against each other by the statements' own helper. Conditions: at most 1000000 commands, keys and tokens. Lines that are put together, and requests with nothing in them. Conditions: none. Plain facts of chapter 14's step: lines that are put together, and what hangs on the bytes that a line takes. Conditions: none. Two requests of which one has more commands. Conditions: none. -/
import Derived.Test.YthofdmepofepgaaDoorStepT
import Derived.Test.YthofdmepofepgaaDoorG29Joined
namespace Go.Proofs.YthofdmepofepgaaDoor
set_option linter.unusedVariables false
open Go.RowKit

section
variable {w : World} {s : Sv} {ca ta ka : Option Addr} {cc tc kc : Nat} {t : TypeId} {p : Nat}
theorem st_at (h : w.heap[p]? = some (.cells (stC s ca cc ta tc ka kc) t (0, 0))) (j : Nat) (v : Value) (hv : (stC s ca cc ta tc ka kc)[j]? = some v) : w.cell? ⟨p, j, none⟩ = some v := by
  unfold World.cell?
  rw [h]
  exact hv
theorem st_req (h : w.heap[p]? = some (.cells (stC s ca cc ta tc ka kc) t (0, 0))) : w.rangeAt p 0 (rqC s.req ca cc ta tc ka kc).toList := fun j v hv => by
  have hj : j < 11 := (List.getElem?_eq_some_iff.1 hv).1
  refine st_at h _ v ?_
  match j, hj with
  | 0, _ | 1, _ | 2, _ | 3, _ | 4, _ | 5, _ | 6, _ | 7, _ | 8, _ | 9, _ | 10, _ => exact hv
theorem st_cells (h : w.heap[p]? = some (.cells (stC s ca cc ta tc ka kc) t (0, 0))) : w.cell? ⟨p, 11, none⟩ = some (.string s.reply) ∧ w.cell? ⟨p, 12, none⟩ = some (.int .i64 s.used) ∧ w.cell? ⟨p, 13, none⟩ = some (.int .i64 s.skip) ∧ w.cell? ⟨p, 14, none⟩ = some (.bool s.line) ∧ w.cell? ⟨p, 15, none⟩ = some (.int .i64 s.e) :=
  ⟨st_at h 11 _ rfl, st_at h 12 _ rfl, st_at h 13 _ rfl, st_at h 14 _ rfl, st_at h 15 _ rfl⟩
end
/-- Not too many of anything. -/
structure Few1 (r : Qv) : Prop where
  cmds : r.cmds.length ≤ 1000000
  keys : r.form.keys.length ≤ 1000000
  toks : r.form.toks.length ≤ 1000000
section
variable {w : World}
set_option maxRecDepth 100000 in
set_option maxHeartbeats 4000000 in
theorem steps_eq {s : Sv} {cs ds : Array Value} (hf : Few1 s.req) (h1 : StepAt w s cs) (h2 : StepAt w s ds) : Calls Tryd.prog 11 #[.agg cs, .agg ds] w fun e w' => e = .returned (.bool true) ∧ w.grownBy w' none := by
  obtain ⟨ca, cc, ta, tc, ka, kc, rfl, q1⟩ := h1
  obtain ⟨cb, cd, tb, td, kb, kd, rfl, q2⟩ := h2
  have H := ((Law.start w).box (.cells (stC s ca cc ta tc ka kc) 33)).box (.cells (stC s cb cd tb td kb kd) 33)
  simp only [World.size_alloc] at H
  obtain ⟨W2, hW2⟩ : ∃ W2, W2 = (w.alloc (.cells (stC s ca cc ta tc ka kc) 33)).alloc (.cells (stC s cb cd tb td kb kd) 33) := ⟨_, rfl⟩
  rw [← hW2] at H
  have ra := st_req H.q.2.1.1
  have rb := st_req H.q.1
  have gw : w.grownBy W2 none := gr_of_below H.below
  have HC := hide (requests_eq (q1.on H.below) (q2.on H.below) hf.cmds hf.keys hf.toks)
  have HX := hide (fun (W : World) (hg : W2.grownBy W none) => And.intro (st_cells (H.step hg).q.2.1.1) (st_cells (H.step hg).q.1))
  have HG := hide gw
  clear H q1 q2 gw hf
  go_enter Tryd.func11, Tryd.ntmps11
  go_wp2_with (first
    | (have t1 := hW2; clear t1; rw [← hW2]; refine wpList_load_mid rfl 30 _ rfl w.heap.size 0 rfl (rqC s.req ca cc ta tc ka kc).toList _ ra Tryd.underlying30 rfl (by rw [req_size s.req ca ta ka cc tc kc, Array.length_toList]) ?_; clear hW2)
    | (refine wpList_load_mid rfl 30 _ rfl (w.heap.size + 1) 0 rfl (rqC s.req cb cd tb td kb kd).toList _ rb Tryd.underlying30 rfl (by rw [req_size s.req cb tb kb cd td kd, Array.length_toList]) ?_)
    | (go_at_call 16; refine HC.out.mono ?_; rintro e w3 ⟨rfl, g3⟩; obtain ⟨⟨x1, x2, x3, x4, x5⟩, y1, y2, y3, y4, y5⟩ := HX.out w3 g3; replace g3 := hide (gr_trans HG.out g3); clear ra rb))
  go_ret
  exact ⟨by first | rfl | (simp; done), g3.out⟩
set_option maxRecDepth 100000 in
set_option maxHeartbeats 4000000 in
theorem steps_bool {s u : Sv} {cs ds : Array Value} (h1 : StepAt w s cs) (h2 : StepAt w u ds) (hq : ∀ (W : World) (ca ta ka cb tb kb : Option Addr) (cc tc kc cd td kd : Nat), QAt W s.req ca cc ta tc ka kc → QAt W u.req cb cd tb td kb kd → Calls Tryd.prog 16 #[.agg (rqC s.req ca cc ta tc ka kc), .agg (rqC u.req cb cd tb td kb kd)] W fun e w' => (∃ b, e = .returned (.bool b)) ∧ W.grownBy w' none) : Calls Tryd.prog 11 #[.agg cs, .agg ds] w fun e w' => (∃ b, e = .returned (.bool b)) ∧ w.grownBy w' none := by
  obtain ⟨ca, cc, ta, tc, ka, kc, rfl, q1⟩ := h1
  obtain ⟨cb, cd, tb, td, kb, kd, rfl, q2⟩ := h2
  have H := ((Law.start w).box (.cells (stC s ca cc ta tc ka kc) 33)).box (.cells (stC u cb cd tb td kb kd) 33)
  simp only [World.size_alloc] at H
  obtain ⟨W2, hW2⟩ : ∃ W2, W2 = (w.alloc (.cells (stC s ca cc ta tc ka kc) 33)).alloc (.cells (stC u cb cd tb td kb kd) 33) := ⟨_, rfl⟩
  rw [← hW2] at H
  have ra := st_req H.q.2.1.1
  have rb := st_req H.q.1
  have gw : w.grownBy W2 none := gr_of_below H.below
  have HC := hide (hq W2 ca ta ka cb tb kb cc tc kc cd td kd (q1.on H.below) (q2.on H.below))
  have HX := hide (fun (W : World) (hg : W2.grownBy W none) => And.intro (st_cells (H.step hg).q.2.1.1) (st_cells (H.step hg).q.1))
  have HG := hide gw
  clear H q1 q2 gw hq
  go_enter Tryd.func11, Tryd.ntmps11
  go_wp2_with (first
    | (have t1 := hW2; clear t1; rw [← hW2]; refine wpList_load_mid rfl 30 _ rfl w.heap.size 0 rfl (rqC s.req ca cc ta tc ka kc).toList _ ra Tryd.underlying30 rfl (by rw [req_size s.req ca ta ka cc tc kc, Array.length_toList]) ?_; clear hW2)
    | (refine wpList_load_mid rfl 30 _ rfl (w.heap.size + 1) 0 rfl (rqC u.req cb cd tb td kb kd).toList _ rb Tryd.underlying30 rfl (by rw [req_size u.req cb tb kb cd td kd, Array.length_toList]) ?_)
    | (go_at_call 16; refine HC.out.mono ?_; rintro e w3 ⟨⟨b, rfl⟩, g3⟩; obtain ⟨⟨x1, x2, x3, x4, x5⟩, y1, y2, y3, y4, y5⟩ := HX.out w3 g3; replace g3 := hide (gr_trans HG.out g3); clear ra rb))
  all_goals
    go_ret
    exact ⟨⟨_, rfl⟩, g3.out⟩
end
end Go.Proofs.YthofdmepofepgaaDoor

namespace Go.Proofs.YthofdmepofepgaaDoor
set_option linter.unusedVariables false

theorem noCR_id {l : List UInt8} (h : (13 : UInt8) ∉ l) : noCR l = l := by
  unfold noCR
  rw [if_neg]
  intro e
  exact h (List.mem_of_getLast? e)
/-- A line with a carriage return and a line feed. -/
theorem lineN_crlf {l : List UInt8} (r : List UInt8) (h : (10 : UInt8) ∉ l) (hl : l.length ≤ 2048) : lineN (l ++ 13 :: 10 :: r) = (l, (l.length : Int) + 2, 0) := by
  have e : l ++ 13 :: 10 :: r = (l ++ [13]) ++ 10 :: r := by simp
  have h2 : (10 : UInt8) ∉ l ++ [13] := by
    intro hm
    rcases List.mem_append.1 hm with h1 | h1
    · exact h h1
    · simp at h1
  rw [e, lineN_of h2, noCR_snoc, if_neg (by omega), List.length_append]
  simp
  omega
theorem lineN_lf {l : List UInt8} (r : List UInt8) (h : (10 : UInt8) ∉ l) (h13 : (13 : UInt8) ∉ l) (hl : l.length ≤ 2048) : lineN (l ++ 10 :: r) = (l, (l.length : Int) + 1, 0) := by
  rw [lineN_of h, noCR_id h13, if_neg (by omega)]
theorem few_no : Few1 noQ := ⟨by decide, by decide, by decide⟩
end Go.Proofs.YthofdmepofepgaaDoor

namespace Go.Proofs.YthofdmepofepgaaDoor
set_option linter.unusedVariables false

theorem parse_of {b l r : List UInt8} {u : Nat} (h : lineN b = (l, (u : Int), 0)) (hb : b.drop u = r) : parseN b = lineS (wordsL l) r (u : Int) := by
  unfold parseN
  rw [h]
  simp only []
  rw [if_neg (by decide), if_neg (by decide), Int.toNat_natCast, hb]
theorem parse_crlf {l : List UInt8} (r : List UInt8) (h : (10 : UInt8) ∉ l) (hl : l.length ≤ 2048) : parseN (l ++ 13 :: 10 :: r) = lineS (wordsL l) r ((l.length + 2 : Nat) : Int) := by
  refine parse_of (l := l) (by rw [lineN_crlf r h hl]; rfl) ?_
  have e : l ++ 13 :: 10 :: r = (l ++ [13, 10]) ++ r := by simp
  rw [e, List.drop_left' (by simp)]
theorem parse_lf {l : List UInt8} (r : List UInt8) (h : (10 : UInt8) ∉ l) (h13 : (13 : UInt8) ∉ l) (hl : l.length ≤ 2048) : parseN (l ++ 10 :: r) = lineS (wordsL l) r ((l.length + 1 : Nat) : Int) := by
  refine parse_of (l := l) (by rw [lineN_lf r h h13 hl]; rfl) ?_
  have e : l ++ 10 :: r = (l ++ [10]) ++ r := by simp
  rw [e, List.drop_left' (by simp)]
/-- With nothing behind it a line is waited for, or hangs on what it takes by that number alone. -/
theorem lineS_nil (ws : List (List UInt8)) : (∀ u, lineS ws [] u = moreS) ∨ ∃ s : Sv, s.e ≠ 3 ∧ ∀ u, lineS ws [] u = { s with used := u } := by
  unfold lineS
  by_cases hf : (readN ws).2 = []
  · simp only [if_pos hf]
    unfold finishN
    cases hs : (readN ws).1.sized
    · simp only [if_true]
      exact .inr ⟨⟨reqD (readN ws).1, ⟨#[]⟩, 0, 0, false, 0⟩, by show (0 : Int) ≠ 3; decide, fun u => rfl⟩
    · left
      intro u
      rw [if_neg (by simp)]
      obtain ⟨h1, h2, h3⟩ := readN_ok ws
      have hz := h1.size
      have hz2 := h3 hf
      have e : (bodyN [] (readN ws).1.size).2.2 = 3 := by
        unfold bodyN
        rw [if_neg (by omega), if_pos (by simp; omega)]
      rw [if_pos e]
  · simp only [if_neg hf]
    exact .inr ⟨{ refuseS (readN ws).2 0 with skip := skipN (readN ws).1 }, by show (2 : Int) ≠ 3; decide, fun u => rfl⟩
theorem few_req {d : Dv} {n : Nat} (h : d.keys.length ≤ n) (hn : n ≤ 100000) : Few1 (reqD d) := by
  refine ⟨?_, ?_, by simp [reqD, formD]⟩
  · show (if d.keys = [] then [cmdD d []] else d.keys.map (cmdD d)).length ≤ 1000000
    split
    · simp
    · rw [List.length_map]; omega
  · show (d.keys.map mkB).length ≤ 1000000
    rw [List.length_map]; omega
theorem line_few (ws : List (List UInt8)) (r : List UInt8) (u : Int) (hw : ws.length ≤ 100000) : Few1 (lineS ws r u).req := by
  obtain ⟨h1, h2, h3⟩ := readN_ok ws
  unfold lineS
  split
  · unfold finishN
    repeat' split
    · exact few_req h1.keys hw
    · exact few_no
    · exact few_no
    · exact few_req (d := { (readN ws).1 with val := _ }) h1.keys hw
  · exact few_no
end Go.Proofs.YthofdmepofepgaaDoor

namespace Go.Proofs.YthofdmepofepgaaDoor
set_option linter.unusedVariables false
open Go.RowKit

section
variable {w : World} {r u : Qv} {ca ta ka cb tb kb : Option Addr} {cc tc kc cd td kd : Nat}
set_option maxRecDepth 100000 in
set_option maxHeartbeats 4000000 in
theorem requests_ne (hn : r.cmds.length ≠ u.cmds.length) : Calls Tryd.prog 16 #[.agg (rqC r ca cc ta tc ka kc), .agg (rqC u cb cd tb td kb kd)] w fun e w' => e = .returned (.bool false) ∧ w.grownBy w' none := by
  have H := ((((Law.start w).box (.cells (rqC r ca cc ta tc ka kc) 30)).box (.cells (rqC u cb cd tb td kb kd) 30)).box (.cells (fmC r.form ta tc ka kc) 28)).box (.cells (fmC u.form tb td kb kd) 28)
  simp only [World.size_alloc] at H
  obtain ⟨W2, hW2⟩ : ∃ W2, W2 = (w.alloc (.cells (rqC r ca cc ta tc ka kc) 30)).alloc (.cells (rqC u cb cd tb td kb kd) 30) := ⟨_, rfl⟩
  obtain ⟨W3, hW3⟩ : ∃ W3, W3 = W2.alloc (.cells (fmC r.form ta tc ka kc) 28) := ⟨_, rfl⟩
  obtain ⟨W4, hW4⟩ : ∃ W4, W4 = W3.alloc (.cells (fmC u.form tb td kb kd) 28) := ⟨_, rfl⟩
  have z2 : W2.heap.size = w.heap.size + 1 + 1 := by rw [hW2, World.size_alloc, World.size_alloc]
  have z3 : W3.heap.size = w.heap.size + 1 + 1 + 1 := by rw [hW3, World.size_alloc, z2]
  rw [← hW2, ← hW3, ← hW4] at H
  have hA2 : W2.heap[w.heap.size]? = some (.cells (rqC r ca cc ta tc ka kc) 30 (0, 0)) := by rw [hW2, Below.heap_alloc _ _ _ (by rw [World.size_alloc]; omega)]; exact World.alloc_heap_new _ _
  have hB3 : W3.heap[w.heap.size + 1]? = some (.cells (rqC u cb cd tb td kb kd) 30 (0, 0)) := by
    rw [hW3, Below.heap_alloc _ _ _ (by omega), hW2]
    have := World.alloc_heap_new (w.alloc (.cells (rqC r ca cc ta tc ka kc) 30)) (.cells (rqC u cb cd tb td kb kd) 30)
    rw [World.size_alloc] at this
    exact this
  have ra := rq_form hA2
  have rb := rq_form hB3
  have S3 : Hid (∀ old, (W2.alloc (.cells old 28)).setRow (w.heap.size + 1 + 1) (fmC r.form ta tc ka kc) = W3) := fun old => by rw [hW3, ← z2]; exact setRow_alloc _ _ _ _
  have S4 : Hid (∀ old, (W3.alloc (.cells old 28)).setRow (w.heap.size + 1 + 1 + 1) (fmC u.form tb td kb kd) = W4) := fun old => by rw [hW4, ← z3]; exact setRow_alloc _ _ _ _
  have N3 : Hid (∀ old, (W2.alloc (.cells old 28)).heap[w.heap.size + 1 + 1]? = some (.cells old 28 (0, 0))) := fun old => by rw [← z2]; exact World.alloc_heap_new _ _
  have N4 : Hid (∀ old, (W3.alloc (.cells old 28)).heap[w.heap.size + 1 + 1 + 1]? = some (.cells old 28 (0, 0))) := fun old => by rw [← z3]; exact World.alloc_heap_new _ _
  have a0 := rq_at H.q.2.1.2.1.2.1.1 0 _ rfl
  have b0 := rq_at H.q.2.1.2.1.1 0 _ rfl
  have HG := hide (gr_of_below H.below)
  obtain ⟨n, hnn⟩ : ∃ n, r.cmds.length = n := ⟨_, rfl⟩
  obtain ⟨m, hmm⟩ : ∃ m, u.cmds.length = m := ⟨_, rfl⟩
  have a1 : W4.cell? ⟨w.heap.size, 0, none⟩ = some (.slice ca n cc) := by rw [← hnn]; exact a0
  have b1 : W4.cell? ⟨w.heap.size + 1, 0, none⟩ = some (.slice cb m cd) := by rw [← hmm]; exact b0
  have hne : ¬ (n : Int) = (m : Int) := by omega
  clear H hA2 hB3 hW3 hW4 a0 b0 hn hnn hmm
  go_enter Tryd.func16, Tryd.ntmps16
  go_wp2_with (first
    | (have t1 := hW2; clear t1; rw [← hW2]; refine wpList_load_mid rfl 28 _ rfl w.heap.size 1 rfl (fmC r.form ta tc ka kc).toList _ ra Tryd.underlying28 rfl (by rw [fmC_size r.form ta tc ka kc, Array.length_toList]) ?_; clear hW2)
    | (refine wpList_load_mid rfl 28 _ rfl (w.heap.size + 1) 1 rfl (fmC u.form tb td kb kd).toList _ rb Tryd.underlying28 rfl (by rw [fmC_size u.form tb td kb kd, Array.length_toList]) ?_)
    | (refine wpList_store_row rfl 28 _ _ rfl (w.heap.size + 1 + 1) (fmC r.form ta tc ka kc) rfl rfl _ _ (N3.out _) (fmC_size _ _ _ _ _) rfl (fmC_one _ _ _ _ _) ?_; rw [S3.out])
    | (refine wpList_store_row rfl 28 _ _ rfl (w.heap.size + 1 + 1 + 1) (fmC u.form tb td kb kd) rfl rfl _ _ (N4.out _) (fmC_size _ _ _ _ _) rfl (fmC_one _ _ _ _ _) ?_; rw [S4.out]))
  go_ret
  exact ⟨rfl, HG.out⟩
/-- A step without commands, held against any step that has commands or none at all. -/
theorem steps_some {s u : Sv} {cs ds : Array Value} (hs : s.req = noQ) (hu : u.req = noQ ∨ 0 < u.req.cmds.length) (h1 : StepAt w s cs) (h2 : StepAt w u ds) : Calls Tryd.prog 11 #[.agg cs, .agg ds] w fun e w' => (∃ b, e = .returned (.bool b)) ∧ w.grownBy w' none := by
  refine steps_bool h1 h2 fun W ca ta ka cb tb kb cc tc kc cd td kd q1 q2 => ?_
  rw [hs] at q1 ⊢
  rcases hu with hu | hu
  · rw [hu] at q2 ⊢
    exact (requests_eq q1 q2 (by decide) (by decide) (by decide)).mono fun e w' ⟨h, g⟩ => ⟨⟨_, h⟩, g⟩
  · exact (requests_ne (r := noQ) (u := u.req) (show (0 : Nat) ≠ u.req.cmds.length by omega)).mono fun e w' ⟨h, g⟩ => ⟨⟨_, h⟩, g⟩
end
end Go.Proofs.YthofdmepofepgaaDoor
