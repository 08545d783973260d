/- A block of three slices of bytes that is made in a call and handed back. Conditions: none. -/
import Derived.Test.YtaafkefgpgoepaaSub3
namespace Go.Proofs.Ytaafkefgpgoepaa
set_option linter.unusedVariables false
open Go.RowKit Go.Shelf

/-- Three slices as cells. -/
def pt3 (xa : Option Addr) (xn xc : Nat) (ka : Option Addr) (kn kc : Nat) (va : Option Addr) (vn vc : Nat) : Array Value := #[.slice xa xn xc, .slice ka kn kc, .slice va vn vc]
theorem pt3_size (xa : Option Addr) (xn xc : Nat) (ka : Option Addr) (kn kc : Nat) (va : Option Addr) (vn vc : Nat) : (Try.prog.info? 38).map (·.size) = some (pt3 xa xn xc ka kn kc va vn vc).size := by
  have h : (Try.prog.info? 38).map (·.size) = some 3 := by kernel_rfl
  exact h
theorem pt3_one (xa : Option Addr) (xn xc : Nat) (ka : Option Addr) (kn kc : Nat) (va : Option Addr) (vn vc : Nat) : (pt3 xa xn xc ka kn kc va vn vc).all (·.oneCell') = true := by simp [pt3, Value.oneCell']
/-- The block lies there, made since w. -/
structure PtS (w W : World) (B : Nat) (cs : Array Value) : Prop where
  row : W.heap[B]? = some (.cells cs 38 (0, 0))
  gr : w.grownBy W none
  new : w.heap.size ≤ B
section
variable {w V W W' w1 : World} {B : Nat} {cs : Array Value}
theorem PtS.lt (h : PtS w W B cs) : B < W.heap.size := (Array.getElem?_eq_some_iff.1 h.row).1
theorem PtS.make (w : World) (cs : Array Value) : PtS w (w.alloc (.cells cs 38)) w.heap.size cs := ⟨World.alloc_heap_new w _, World.grownBy_alloc _ _ _, Nat.le_refl _⟩
theorem PtS.on (h : PtS w W B cs) (hg : W.grownBy W' none) : PtS w W' B cs := ⟨(hg.block B h.lt (by simp)).trans h.row, gr_trans h.gr hg, h.new⟩
theorem PtS.set (h : PtS w W B cs) (j : Nat) (v : Value) : PtS w (W.setCell ⟨B, j, none⟩ v) B (cs.setIfInBounds j v) := ⟨setAtB j v h.row, gr_new h.gr (setGrB W B j v) h.new, h.new⟩
theorem PtS.cell (h : PtS w W B cs) {j : Nat} {v : Value} (hj : cs[j]? = some v) : W.cell? ⟨B, j, none⟩ = some v := by
  unfold World.cell?
  rw [h.row]
  exact hj
theorem PtS.fz (h : PtS w W B cs) (j : Nat) : W.frozen? ⟨B, j, none⟩ = false := frozen_of_row W B j cs _ h.row
/-- The row again. -/
theorem PtS.again (h : PtS w W B cs) (ds : Array Value) : PtS w (W.setRow B ds) B ds ∧ W.grownBy (W.setRow B ds) (some B) := by
  have g : W.grownBy (W.setRow B ds) (some B) := ⟨rfl, rfl, rfl, by rw [size_setRow]; exact Nat.le_refl _, fun k hk hn => setRow_other W B k _ (fun e => hn (by rw [e]))⟩
  exact ⟨⟨setRow_heap W B cs ds _ _ h.row, gr_new h.gr g h.new, h.new⟩, g⟩
/-- A slice is stored behind a call that wrote nothing that was there. -/
theorem pt_step (P : PtS w W B cs) (G : V.grownBy W (some B)) (hg : W.grownBy w1 none) {j : Nat} {old : Value} (hj : cs[j]? = some old) (v : Value) :
    ∃ W1, w1.setCell ⟨B, j, none⟩ v = W1 ∧ w1.cell? ⟨B, j, none⟩ = some old ∧ w1.frozen? ⟨B, j, none⟩ = false ∧ PtS w W1 B (cs.setIfInBounds j v) ∧ V.grownBy W1 (some B) ∧ w1.grownBy W1 (some B) := by
  have P1 := P.on hg
  have g := setGrB w1 B j v
  exact ⟨_, rfl, P1.cell hj, P1.fz j, P1.set j v, gr_self (gr_trans G (gr_any hg (some B))) g, g⟩
/-- Blocks from n on stay as they are. -/
def Hi (n : Nat) (W W' : World) : Prop := W.heap.size ≤ W'.heap.size ∧ ∀ k, n ≤ k → k < W.heap.size → W'.heap[k]? = W.heap[k]?
theorem Hi.of {n : Nat} (h : W.grownBy W' (some B)) (hB : B < n) : Hi n W W' := ⟨h.size, fun k hk hl => h.block k hl (fun e => by have := Option.some.inj e; omega)⟩
theorem Hi.gr {n : Nat} (h : W.grownBy W' none) : Hi n W W' := ⟨h.size, fun k hk hl => h.block k hl (by simp)⟩
theorem Hi.trans {n : Nat} {a b c : World} (h : Hi n a b) (k : Hi n b c) : Hi n a c := ⟨Nat.le_trans h.1 k.1, fun i hi hl => (k.2 i hi (Nat.lt_of_lt_of_le hl h.1)).trans (h.2 i hi hl)⟩
theorem Hi.up {n m : Nat} (h : Hi n W W') (hn : n ≤ m) : Hi m W W' := ⟨h.1, fun k hk hl => h.2 k (Nat.le_trans hn hk) hl⟩
/-- Bytes of their own stay where blocks from theirs on do. -/
theorem val_hi {n0 : Nat} {a : Option Addr} {c : Nat} {l : List UInt8} (h : ValAt n0 W a c l) (hg : Hi n0 W W') : Bu W' a l.length c l := by
  have hb := h.bu
  refine ⟨hb.n, ?_, hb.c, hb.m⟩
  rcases hb.b with h1 | ⟨b, off, r⟩
  · exact .inl h1
  · have hr := r
    obtain ⟨q1, q2, q3, q4, q5, q6, q7⟩ := r
    subst q1
    have h2 : n0 ≤ b := by
      have h' : W.ownsRow n0 5 1 (.slice (some ⟨b, off, none⟩) l.length c) l.length (byU l) := h
      rcases h'.2 with ⟨h1, _⟩ | ⟨g, cap, cur, h1, h2, _⟩
      · cases h1
      · cases h1
        exact h2
    have e := hg.2 b h2 q7
    exact .inr ⟨b, off, rfl, q2, q3, q4, q5, fun i hi => by rw [World.cell?_of_block (a := ⟨b, off + i, none⟩) e]; exact q6 i hi, Nat.lt_of_lt_of_le q7 hg.1⟩
theorem val_far {n0 : Nat} {a : Option Addr} {c : Nat} {l : List UInt8} (h : ValAt n0 W a c l) (hg : W.grownBy W' (some B)) (hB : B < n0) : Bu W' a l.length c l := val_hi h (Hi.of hg hB)
end
end Go.Proofs.Ytaafkefgpgoepaa
