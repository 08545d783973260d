/- What the words of a line say, in memory; the step that is made of it. Conditions: none. -/
import Derived.Test.YthofdmepofepgaaDoorG26Joined
import Derived.Test.YthofdmepofepgaaDoorG07Joined
namespace Go.Proofs.YthofdmepofepgaaDoor
set_option linter.unusedVariables false
open Go.RowKit

/-- What the words say, as cells. -/
def sdC (s : Sd) (ca : Option Addr) (cc : Nat) (ta : Option Addr) (tc : Nat) (ka : Option Addr) (kc : Nat) : Array Value :=
  #[.slice ca s.req.cmds.length cc, .int .i64 s.req.form.dia, .string s.req.form.verb, .int .i64 s.req.form.code, .int .u32 s.req.form.opq, .bool s.req.form.quiet, .bool s.req.form.wcas, .string s.req.form.flags, .slice ta s.req.form.toks.length tc, .slice ka s.req.form.keys.length kc, .bool s.req.form.b64,
    .string (mkB s.fault), .int .u64 s.size, .bool s.sized]
theorem said_size (s : Sd) (ca ta ka : Option Addr) (cc tc kc : Nat) : (Tryd.prog.info? 51).map (·.size) = some (sdC s ca cc ta tc ka kc).size := by
  have h : (Tryd.prog.info? 51).map (·.size) = some 14 := by kernel_rfl
  exact h
theorem said_one (s : Sd) (ca ta ka : Option Addr) (cc tc kc : Nat) : (sdC s ca cc ta tc ka kc).all (·.oneCell') = true := by simp [sdC, Value.oneCell']
/-- The rows of what the words say: they are new from block n0 on; where a body is told, there is one command. -/
structure SdAt (n0 : Nat) (w : World) (s : Sd) (ca : Option Addr) (cc : Nat) (ta : Option Addr) (tc : Nat) (ka : Option Addr) (kc : Nat) : Prop where
  q : ∀ W' : World, (∀ k, n0 ≤ k → k < w.heap.size → W'.heap[k]? = w.heap[k]?) → w.heap.size ≤ W'.heap.size → QAt W' s.req ca cc ta tc ka kc
  one : s.sized = true → ∃ c va vc, s.req.cmds = [c] ∧ w.ownsRow n0 38 10 (.slice ca 1 cc) 1 (cmC c va vc).toList
  su : ∀ W' : World, (∀ k, n0 ≤ k → k < w.heap.size → (Value.slice ca 1 cc).ownBlock ≠ some k → W'.heap[k]? = w.heap[k]?) → w.heap.size ≤ W'.heap.size → Su W' ta s.req.form.toks.length tc s.req.form.toks ∧ Su W' ka s.req.form.keys.length kc s.req.form.keys
/-- What a function that reads a line's words does. -/
def SaidEnd (s : Sd) (w : World) (e : Ending) (w' : World) : Prop := ∃ ca cc ta tc ka kc, e = .returned (.agg (sdC s ca cc ta tc ka kc)) ∧ SdAt w.heap.size w' s ca cc ta tc ka kc ∧ w.grownBy w' none
theorem SdAt.on {n0 : Nat} {w w' : World} {s : Sd} {ca ta ka : Option Addr} {cc tc kc : Nat} (h : SdAt n0 w s ca cc ta tc ka kc) (hg : w.grownBy w' none) : SdAt n0 w' s ca cc ta tc ka kc := by
  refine ⟨fun W' h1 h2 => h.q W' (fun k hk hl => (h1 k hk (Nat.lt_of_lt_of_le hl hg.size)).trans (hg.block k hl (by simp))) (Nat.le_trans hg.size h2), fun hs => ?_, fun W' h1 h2 => h.su W' (fun k hk hl hn => (h1 k hk (Nat.lt_of_lt_of_le hl hg.size) hn).trans (hg.block k hl (by simp))) (Nat.le_trans hg.size h2)⟩
  obtain ⟨c, va, vc, e, ho⟩ := h.one hs
  exact ⟨c, va, vc, e, own_same ho fun k hk => hg.block k (own_at ho hk).2.1 (by simp)⟩
/-- A row of one command. -/
theorem cu_one {w : World} {n0 : Nat} {ca va : Option Addr} {cc vc : Nat} {c : Cv} (h : w.ownsRow n0 38 10 (.slice ca 1 cc) 1 (cmC c va vc).toList) (hV : Bu w va c.val.length vc c.val) : Cu w ca 1 cc [c] := by
  refine ⟨rfl, (own_cap h).1, (own_cap h).2, ?_⟩
  obtain ⟨g, cap, e⟩ := own_form h (by omega)
  cases e
  refine .inr ⟨g, 0, rfl, (own_at h rfl).2.1, fun i x hi => ?_⟩
  have hi0 : i = 0 := by have := (List.getElem?_eq_some_iff.1 hi).1; simpa using this
  subst hi0
  simp only [List.getElem?_cons_zero, Option.some.injEq] at hi
  subst hi
  refine ⟨va, vc, fun j u hu => ?_, hV⟩
  have hj : j < 10 := (List.getElem?_eq_some_iff.1 hu).1
  rw [Nat.zero_add, h.cellAt j (by omega)]
  exact hu
/-- The value of the one command is set. -/
theorem own_value {w W : World} {n0 g cc vc vd : Nat} {va vb : Option Addr} {c : Cv} {v : List UInt8} (h : w.ownsRow n0 38 10 (.slice (some ⟨g, 0, none⟩) 1 cc) 1 (cmC c va vc).toList) (hs : W.heap[g]? = (w.setCell ⟨g, 2, none⟩ (.slice vb v.length vd)).heap[g]?) : W.ownsRow n0 38 10 (.slice (some ⟨g, 0, none⟩) 1 cc) 1 (cmC { c with val := v } vb vd).toList := by
  refine ⟨rfl, ?_⟩
  rcases h.2 with ⟨h1, -⟩ | ⟨g', cap, cur, e, h2, h3, h4, h5, h6, h7⟩
  · cases h1
  · cases e
    have h8 := heap_setCell_same w g 2 _ _ (.slice vb v.length vd) h3
    refine .inr ⟨g, cc, _, rfl, h2, hs.trans h8, h4, h5, by rw [Array.size_setIfInBounds]; exact h6, ?_⟩
    rw [Array.toList_setIfInBounds, List.take_set, h7]
    rfl
theorem SdAt.put {n0 : Nat} {w : World} {s : Sd} {ca ta ka : Option Addr} {cc tc kc : Nat} (h : SdAt n0 w s ca cc ta tc ka kc) (hs : s.sized = true) : s.req.cmds.length = 1 ∧ ∃ g x, ca = some ⟨g, 0, none⟩ ∧ n0 ≤ g ∧ g < w.heap.size ∧ w.cell? ⟨g, 2, none⟩ = some x ∧ w.frozen? ⟨g, 2, none⟩ = false ∧
    ∀ (W1 W' : World) (vb : Option Addr) (vd : Nat) (v : List UInt8), (∀ k, n0 ≤ k → k < w.heap.size → W1.heap[k]? = w.heap[k]?) → Bu W' vb v.length vd v → (∀ k, n0 ≤ k → k < w.heap.size → W'.heap[k]? = (W1.setCell ⟨g, 2, none⟩ (.slice vb v.length vd)).heap[k]?) → w.heap.size ≤ W'.heap.size → QAt W' (putSd s v) ca cc ta tc ka kc := by
  obtain ⟨c, va, vc, e, ho⟩ := h.one hs
  refine ⟨by rw [e]; rfl, ?_⟩
  obtain ⟨g, cap, e1⟩ := own_form ho (by omega)
  cases e1
  have hg := own_at ho rfl
  refine ⟨g, (cmC c va vc).toList[2]!, rfl, hg.1, hg.2.1, ?_, ?_, fun W1 W' vb vd v k1 hB k3 k4 => ?_⟩
  · rw [ho.cellAt 2 (by omega)]
    rfl
  · rcases ho.2 with ⟨h1, -⟩ | ⟨g', cap', cur, e2, h2, h3, h4⟩
    · cases h1
    · cases e2
      exact frozen_of_row _ _ _ _ _ h3
  · have ho1 := own_same ho fun k hk => by cases hk; exact k1 g hg.1 hg.2.1
    have ho2 := own_value (W := W') ho1 (v := v) (vb := vb) (vd := vd) (k3 g hg.1 hg.2.1)
    obtain ⟨s1, s2⟩ := h.su W' (fun k hk hl hn => by
      have hkg : k ≠ g := fun e => hn (by rw [e]; rfl)
      rw [k3 k hk hl, heap_setCell_other _ _ _ _ hkg]
      exact k1 k hk hl) k4
    refine ⟨?_, s1, s2⟩
    have hc := cu_one ho2 hB
    have el : (putSd s v).cmds = [{ c with val := v }] := by unfold putSd; rw [e]; rfl
    rw [el]
    exact hc
/-- A step that lies in a block is what is answered. -/
theorem step_ret {fn : Func} {W : World} {r : Nat} {cs : Array Value} {tmps : Array Value} {p : Tmp} {Post : Ending → World → Prop} (hf : fn.results = #[.cell p 33]) (hb : W.heap[r]? = some (.cells cs 33 (0, 0))) (h4 : tmps.getD p undef = .pointer (some ⟨r, 0, none⟩)) (hz : cs.size = 16)
    (h : Post (.returned (.agg cs)) W) : bodyPost Tryd.prog fn Post .ret { tmps := tmps, defers := [] } W :=
  bodyPost_ret (results_cell_row hf tmps W r 33 cs (0, 0) _ h4 hb Tryd.underlying33 rfl (by rw [hz]; kernel_rfl)) rfl h
theorem str_app (a b : List UInt8) : (⟨a.toArray⟩ ++ ⟨b.toArray⟩ : ByteArray) = mkB (a ++ b) := by
  apply ByteArray.ext
  rw [ByteArray.data_append]
  simp [mkB]
set_option maxRecDepth 100000 in
set_option maxHeartbeats 1000000 in
theorem refuse_any (f : List UInt8) (hf : f.length ≤ 1000) (used : Int) (w : World) : Calls Tryd.prog 18 #[.string (mkB f), .int .i64 used] w fun e w' => e = .returned (.agg (stC (refuseS f used) none 0 none 0 none 0)) ∧ w.grownBy w' none := by
  have hg := World.grownBy_alloc w (.cells (stC (refuseS f used) none 0 none 0 none 0) 33) none
  have HE : Hid (stC (refuseS f used) none 0 none 0 none 0 = #[.slice none 0 0, .int .i64 0, .string ⟨#[]⟩, .int .i64 0, .int .u32 0, .bool false, .bool false, .string ⟨#[]⟩, .slice none 0 0, .slice none 0 0, .bool false, .string (⟨f.toArray⟩ ++ ⟨#[13, 10]⟩), .int .i64 used, .int .i64 0, .bool false, .int .i64 2]) := by
    show _ = _
    rw [show (⟨f.toArray⟩ ++ ⟨#[13, 10]⟩ : ByteArray) = mkB (f ++ t_end) from str_app f t_end]
    rfl
  have hl : ¬ 9223372036854775807 < f.length + 2 := by omega
  clear hf
  simp only [mkB]
  go_enter Tryd.func18, Tryd.ntmps18
  go_wp2_with (refine wpList_store_row rfl 33 _ _ rfl w.heap.size (stC (refuseS f used) none 0 none 0 none 0) rfl (by rw [HE.out]; rfl) _ (stC noS none 0 none 0 none 0) (World.alloc_heap_new w _) (step_size _ _ _ _ _ _ _) rfl (step_one _ _ _ _ _ _ _) ?_; rw [setRow_alloc])
  exact step_ret rfl (World.alloc_heap_new w _) rfl rfl ⟨rfl, hg⟩
theorem set_line (s : Sv) (b : Bool) (ca ta ka : Option Addr) (cc tc kc : Nat) : (stC s ca cc ta tc ka kc).setIfInBounds 14 (.bool b) = stC { s with line := b } ca cc ta tc ka kc := by simp [stC]
theorem set_skip (s : Sv) (z : Int) (ca ta ka : Option Addr) (cc tc kc : Nat) : (stC s ca cc ta tc ka kc).setIfInBounds 13 (.int .i64 z) = stC { s with skip := z } ca cc ta tc ka kc := by simp [stC]
theorem chunk_is : (⟨#[67, 76, 73, 69, 78, 84, 95, 69, 82, 82, 79, 82, 32, 98, 97, 100, 32, 100, 97, 116, 97, 32, 99, 104, 117, 110, 107]⟩ : ByteArray) = mkB t_chunk := rfl
theorem long_is : (⟨#[67, 76, 73, 69, 78, 84, 95, 69, 82, 82, 79, 82, 32, 108, 105, 110, 101, 32, 116, 111, 111, 32, 108, 111, 110, 103]⟩ : ByteArray) = mkB t_long := rfl
theorem large_is : (⟨#[83, 69, 82, 86, 69, 82, 95, 69, 82, 82, 79, 82, 32, 111, 98, 106, 101, 99, 116, 32, 116, 111, 111, 32, 108, 97, 114, 103, 101, 32, 102, 111, 114, 32, 99, 97, 99, 104, 101]⟩ : ByteArray) = mkB t_large := rfl
theorem StepAt.q {w : World} {s : Sv} {ca ta ka : Option Addr} {cc tc kc : Nat} (h : StepAt w s (stC s ca cc ta tc ka kc)) : QAt w s.req ca cc ta tc ka kc := by
  obtain ⟨ca', cc', ta', tc', ka', kc', e, hq⟩ := h
  have h0 : some (Value.slice ca s.req.cmds.length cc) = some (Value.slice ca' s.req.cmds.length cc') := congrArg (fun x : Array Value => x[0]?) e
  have h8 : some (Value.slice ta s.req.form.toks.length tc) = some (Value.slice ta' s.req.form.toks.length tc') := congrArg (fun x : Array Value => x[8]?) e
  have h9 : some (Value.slice ka s.req.form.keys.length kc) = some (Value.slice ka' s.req.form.keys.length kc') := congrArg (fun x : Array Value => x[9]?) e
  obtain ⟨rfl, -, rfl⟩ := Value.slice.inj (Option.some.inj h0)
  obtain ⟨rfl, -, rfl⟩ := Value.slice.inj (Option.some.inj h8)
  obtain ⟨rfl, -, rfl⟩ := Value.slice.inj (Option.some.inj h9)
  exact hq
/-- What Parse does: a step whose rows are all new. -/
def ParseEnd (s : Sv) (w : World) (e : Ending) (w' : World) : Prop := ∃ ca cc ta tc ka kc, e = .returned (.agg (stC s ca cc ta tc ka kc)) ∧ (∀ W' : World, (∀ k, w.heap.size ≤ k → k < w'.heap.size → W'.heap[k]? = w'.heap[k]?) → w'.heap.size ≤ W'.heap.size → QAt W' s.req ca cc ta tc ka kc) ∧ w.grownBy w' none
theorem ParseEnd.up {s : Sv} {w w1 w' : World} {e : Ending} (h : ParseEnd s w1 e w') (hg : w.grownBy w1 none) : ParseEnd s w e w' := by
  obtain ⟨ca, cc, ta, tc, ka, kc, h1, h2, h3⟩ := h
  exact ⟨ca, cc, ta, tc, ka, kc, h1, fun W' hs hz => h2 W' (fun k hk => hs k (Nat.le_trans hg.size hk)) hz, gr_trans hg h3⟩
theorem pbare_end {w W : World} {old : Array Value} {s : Sv} (hs : s.req = noQ) (hr : W.heap[w.heap.size]? = some (.cells old 33 (0, 0))) (hg : w.grownBy W none) :
    (W.setRow w.heap.size (stC s none 0 none 0 none 0)).heap[w.heap.size]? = some (.cells (stC s none 0 none 0 none 0) 33 (0, 0)) ∧ ParseEnd s w (.returned (.agg (stC s none 0 none 0 none 0))) (W.setRow w.heap.size (stC s none 0 none 0 none 0)) :=
  ⟨setRow_heap W _ old _ _ _ hr, none, 0, none, 0, none, 0, rfl, fun W' _ _ => by rw [hs]; exact QAt.none_ _, ⟨hg.os, hg.tape, hg.output, by rw [size_setRow]; exact hg.size, fun k hk hn => (setRow_other W _ k _ (by omega)).trans (hg.block k hk hn)⟩⟩
/-- A step in a block of its own, of which one cell is set. -/
theorem cell_mid {W0 w1 w2 W2 : World} {B j : Nat} {s s' : Sv} {v x : Value} (hW2 : W2 = w2.alloc (.cells (stC s none 0 none 0 none 0) 33)) (hB : B = w2.heap.size) (g1 : W0.grownBy w1 none) (g2 : w1.grownBy w2 none) (hx : (stC s none 0 none 0 none 0)[j]? = some x) (hS : (stC s none 0 none 0 none 0).setIfInBounds j v = stC s' none 0 none 0 none 0) :
    W2.cell? ⟨B, j, none⟩ = some x ∧ W2.frozen? ⟨B, j, none⟩ = false ∧ (W2.setCell ⟨B, j, none⟩ v).heap[B]? = some (.cells (stC s' none 0 none 0 none 0) 33 (0, 0)) ∧ W0.grownBy (W2.setCell ⟨B, j, none⟩ v) none := by
  have n2 : W2.heap[B]? = some (.cells (stC s none 0 none 0 none 0) 33 (0, 0)) := by rw [hW2, hB]; exact World.alloc_heap_new _ _
  have k2 : W0.grownBy W2 none := by rw [hW2]; exact gr_trans g1 (gr_trans g2 (World.grownBy_alloc _ _ _))
  have n3 := heap_setCell_same W2 B j _ _ v n2
  rw [hS] at n3
  have hb2 : W0.heap.size ≤ B := by rw [hB]; exact Nat.le_trans g1.size g2.size
  exact ⟨by unfold World.cell?; rw [n2]; exact hx, frozen_of_row _ _ _ _ _ n2, n3, ⟨k2.1, k2.2, k2.3, by rw [World.size_setCell]; exact k2.size, fun b hb _ => (heap_setCell_other _ _ _ _ (show b ≠ B by omega)).trans (k2.block b hb (by simp))⟩⟩
end Go.Proofs.YthofdmepofepgaaDoor
