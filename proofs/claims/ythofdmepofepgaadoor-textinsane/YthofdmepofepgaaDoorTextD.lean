/- The draft of package textin in memory, and its small functions. Conditions: none. -/
import Derived.Test.YthofdmepofepgaaDoorTextV
import Derived.Test.YthofdmepofepgaaDoorG10Joined
import Derived.Deep.MidRow
namespace Go.Proofs.YthofdmepofepgaaDoor
set_option linter.unusedVariables false
open Go.RowKit

/-- Texts as cells. -/
def strL (ks : List (List UInt8)) : List Value := ks.map fun k => Value.string (mkB k)
theorem strL_len (ks : List (List UInt8)) : (strL ks).length = ks.length := List.length_map _
theorem strL_app (ks : List (List UInt8)) (x : List UInt8) : strL (ks ++ [x]) = strL ks ++ [.string (mkB x)] := by simp [strL]
/-- The draft's form, and its command, as cells. -/
def fmD (d : Dv) (a : Option Addr) (c : Nat) : Array Value := #[.int .i64 d.dia, .string (mkB d.verb), .int .i64 0, .int .u32 0, .bool d.quiet, .bool d.wcas, .string ⟨#[]⟩, .slice none 0 0, .slice a d.keys.length c, .bool false]
def cmD (d : Dv) (va : Option Addr) (vc : Nat) : Array Value := #[.int .i64 d.op, .string ⟨#[]⟩, .slice va d.val.length vc, .int .u32 d.fl, .int .i64 d.exp, .int .u64 d.cas, .int .u64 d.del, .int .u64 0, .bool false, .bool false]
def drC (d : Dv) (a : Option Addr) (c : Nat) (va : Option Addr) (vc : Nat) : Array Value :=
  #[.int .i64 d.dia, .string (mkB d.verb), .int .i64 0, .int .u32 0, .bool d.quiet, .bool d.wcas, .string ⟨#[]⟩, .slice none 0 0, .slice a d.keys.length c, .bool false,
    .int .i64 d.op, .string ⟨#[]⟩, .slice va d.val.length vc, .int .u32 d.fl, .int .i64 d.exp, .int .u64 d.cas, .int .u64 d.del, .int .u64 0, .bool false, .bool false, .int .u64 d.size, .bool d.sized]
section
variable {w : World} {D : Nat} {d : Dv} {a va : Option Addr} {c vc : Nat} {t : TypeId}
theorem dr_at (h : w.heap[D]? = some (.cells (drC d a c va vc) t (0, 0))) (j : Nat) (v : Value) (hv : (drC d a c va vc)[j]? = some v) : w.cell? ⟨D, j, none⟩ = some v := by
  unfold World.cell?
  rw [h]
  exact hv
theorem dr_verb (h : w.heap[D]? = some (.cells (drC d a c va vc) t (0, 0))) : w.cell? ⟨D, 1, none⟩ = some (.string (mkB d.verb)) := dr_at h 1 _ rfl
theorem dr_quiet (h : w.heap[D]? = some (.cells (drC d a c va vc) t (0, 0))) : w.cell? ⟨D, 4, none⟩ = some (.bool d.quiet) := dr_at h 4 _ rfl
theorem dr_keys (h : w.heap[D]? = some (.cells (drC d a c va vc) t (0, 0))) : w.cell? ⟨D, 8, none⟩ = some (.slice a d.keys.length c) := dr_at h 8 _ rfl
theorem dr_op (h : w.heap[D]? = some (.cells (drC d a c va vc) t (0, 0))) : w.cell? ⟨D, 10, none⟩ = some (.int .i64 d.op) := dr_at h 10 _ rfl
theorem dr_val (h : w.heap[D]? = some (.cells (drC d a c va vc) t (0, 0))) : w.cell? ⟨D, 12, none⟩ = some (.slice va d.val.length vc) := dr_at h 12 _ rfl
theorem dr_fl (h : w.heap[D]? = some (.cells (drC d a c va vc) t (0, 0))) : w.cell? ⟨D, 13, none⟩ = some (.int .u32 d.fl) := dr_at h 13 _ rfl
theorem dr_exp (h : w.heap[D]? = some (.cells (drC d a c va vc) t (0, 0))) : w.cell? ⟨D, 14, none⟩ = some (.int .i64 d.exp) := dr_at h 14 _ rfl
theorem dr_cas (h : w.heap[D]? = some (.cells (drC d a c va vc) t (0, 0))) : w.cell? ⟨D, 15, none⟩ = some (.int .u64 d.cas) := dr_at h 15 _ rfl
theorem dr_del (h : w.heap[D]? = some (.cells (drC d a c va vc) t (0, 0))) : w.cell? ⟨D, 16, none⟩ = some (.int .u64 d.del) := dr_at h 16 _ rfl
theorem dr_size (h : w.heap[D]? = some (.cells (drC d a c va vc) t (0, 0))) : w.cell? ⟨D, 20, none⟩ = some (.int .u64 d.size) := dr_at h 20 _ rfl
theorem dr_sized (h : w.heap[D]? = some (.cells (drC d a c va vc) t (0, 0))) : w.cell? ⟨D, 21, none⟩ = some (.bool d.sized) := dr_at h 21 _ rfl
theorem dr_form (h : w.heap[D]? = some (.cells (drC d a c va vc) t (0, 0))) : w.rangeAt D 0 (fmD d a c).toList := fun j v hv => by
  have hj : j < 10 := (List.getElem?_eq_some_iff.1 hv).1
  refine dr_at h _ v ?_
  match j, hj with
  | 0, _ | 1, _ | 2, _ | 3, _ | 4, _ | 5, _ | 6, _ | 7, _ | 8, _ | 9, _ => exact hv
theorem dr_cmd (h : w.heap[D]? = some (.cells (drC d a c va vc) t (0, 0))) : w.rangeAt D 10 (cmD d va vc).toList := fun j v hv => by
  have hj : j < 10 := (List.getElem?_eq_some_iff.1 hv).1
  refine dr_at h _ v ?_
  match j, hj with
  | 0, _ | 1, _ | 2, _ | 3, _ | 4, _ | 5, _ | 6, _ | 7, _ | 8, _ | 9, _ => exact hv
theorem dr_thereF (h : w.heap[D]? = some (.cells (drC d a c va vc) t (0, 0))) : w.there D 0 10 := fun j hj => by
  refine ⟨?_, frozen_of_row _ _ _ _ _ h⟩
  unfold World.cell?
  rw [h]
  match j, hj with
  | 0, _ | 1, _ | 2, _ | 3, _ | 4, _ | 5, _ | 6, _ | 7, _ | 8, _ | 9, _ => rfl
theorem dr_frozen (h : w.heap[D]? = some (.cells (drC d a c va vc) t (0, 0))) (j : Nat) : w.frozen? ⟨D, j, none⟩ = false := frozen_of_row _ _ _ _ _ h
end
theorem fm_size (d : Dv) (a : Option Addr) (c : Nat) : (Tryd.prog.info? 28).map (·.size) = some (fmD d a c).size := by
  have h : (Tryd.prog.info? 28).map (·.size) = some 10 := by kernel_rfl
  exact h
theorem cm_size (d : Dv) (va : Option Addr) (vc : Nat) : (Tryd.prog.info? 38).map (·.size) = some (cmD d va vc).size := by
  have h : (Tryd.prog.info? 38).map (·.size) = some 10 := by kernel_rfl
  exact h
theorem fm_one (d : Dv) (a : Option Addr) (c : Nat) : (fmD d a c).all (·.oneCell') = true := by simp [fmD, Value.oneCell']
theorem cm_one (d : Dv) (va : Option Addr) (vc : Nat) : (cmD d va vc).all (·.oneCell') = true := by simp [cmD, Value.oneCell']

section
variable (d : Dv) (a va : Option Addr) (c vc : Nat)
theorem set_quiet (x : Bool) : (drC d a c va vc).setIfInBounds 4 (.bool x) = drC { d with quiet := x } a c va vc := by simp [drC]
theorem set_op (x : Int) : (drC d a c va vc).setIfInBounds 10 (.int .i64 x) = drC { d with op := x } a c va vc := by simp [drC]
theorem set_fl (x : Int) : (drC d a c va vc).setIfInBounds 13 (.int .u32 x) = drC { d with fl := x } a c va vc := by simp [drC]
theorem set_exp (x : Int) : (drC d a c va vc).setIfInBounds 14 (.int .i64 x) = drC { d with exp := x } a c va vc := by simp [drC]
theorem set_cas (x : Int) : (drC d a c va vc).setIfInBounds 15 (.int .u64 x) = drC { d with cas := x } a c va vc := by simp [drC]
theorem set_del (x : Int) : (drC d a c va vc).setIfInBounds 16 (.int .u64 x) = drC { d with del := x } a c va vc := by simp [drC]
theorem set_size (x : Int) : (drC d a c va vc).setIfInBounds 20 (.int .u64 x) = drC { d with size := x } a c va vc := by simp [drC]
theorem set_sized (x : Bool) : (drC d a c va vc).setIfInBounds 21 (.bool x) = drC { d with sized := x } a c va vc := by simp [drC]
theorem set_keys (a' : Option Addr) (c' : Nat) (ks : List (List UInt8)) : (drC d a c va vc).setIfInBounds 8 (.slice a' ks.length c') = drC { d with keys := ks } a' c' va vc := by simp [drC]
theorem set_val (a' : Option Addr) (c' : Nat) (v : List UInt8) : (drC d a c va vc).setIfInBounds 12 (.slice a' v.length c') = drC { d with val := v } a c a' c' := by simp [drC]
theorem set_form (d' : Dv) (a' : Option Addr) (c' : Nat) : setL (drC d a c va vc) 0 (fmD d' a' c').toList = drC { d with dia := d'.dia, verb := d'.verb, quiet := d'.quiet, wcas := d'.wcas, keys := d'.keys } a' c' va vc := by simp [setL, drC, fmD]
end
/-- What a function of the draft may write: the draft itself, and what lies from n0 on. -/
abbrev GD (n0 D : Nat) (w w' : World) : Prop := Gr (fun k => k = D ∨ n0 ≤ k) w w'
/-- The draft: its block, and the row of its keys, which is from n0 on. -/
structure Dr (wB : World) (n0 D : Nat) (w : World) (d : Dv) : Prop where
  bl : Below wB.heap.size wB w
  lo : wB.heap.size ≤ D
  hi : D < n0
  sz : n0 ≤ w.heap.size
  val : d.val = []
  st : ∃ a c, w.heap[D]? = some (.cells (drC d a c none 0) 57 (0, 0)) ∧ w.ownsRow n0 9 1 (.slice a d.keys.length c) d.keys.length (strL d.keys)
  nil_ : d.keys = [] → w.heap[D]? = some (.cells (drC d none 0 none 0) 57 (0, 0))
theorem drC_ac {d : Dv} {a a' : Option Addr} {c c' : Nat} (h : drC d a c none 0 = drC d a' c' none 0) : a = a' ∧ c = c' := by
  have h1 := congrArg (fun x : Array Value => x[8]?) h
  have h2 : some (Value.slice a d.keys.length c) = some (Value.slice a' d.keys.length c') := h1
  have h3 := Value.slice.inj (Option.some.inj h2)
  exact ⟨h3.1, h3.2.2⟩
section
variable {wB w w' : World} {n0 D : Nat} {d d' : Dv} {a : Option Addr} {c : Nat}
/-- What leaves old blocks as they are. -/
theorem Dr.on (H : Dr wB n0 D w d) (hg : w.grownBy w' none) : Dr wB n0 D w' d := by
  obtain ⟨a, c, h1, h2⟩ := H.st
  have hD : D < w.heap.size := Nat.lt_of_lt_of_le H.hi H.sz
  exact ⟨gr_below H.bl hg (fun _ e => by cases e), H.lo, H.hi, Nat.le_trans H.sz hg.size, H.val, ⟨a, c, (hg.block D hD (by simp)).trans h1, own_same h2 fun k hk => hg.block k (own_at h2 hk).2.1 (by simp)⟩, fun hn => (hg.block D hD (by simp)).trans (H.nil_ hn)⟩
theorem GD.of (hg : w.grownBy w' none) : GD n0 D w w' := ⟨hg.1, hg.2, hg.3, hg.4, fun k hk _ => hg.5 k hk (by simp)⟩
theorem GD.refl (w : World) : GD n0 D w w := Gr.refl _ w
/-- One cell of the draft is set. -/
theorem Dr.set (H : Dr wB n0 D w d) (h1 : w.heap[D]? = some (.cells (drC d a c none 0) 57 (0, 0))) (h2 : w.ownsRow n0 9 1 (.slice a d.keys.length c) d.keys.length (strL d.keys)) (j : Nat) (v : Value)
    (hk : d'.keys = d.keys) (hv : d'.val = d.val) (he : (drC d a c none 0).setIfInBounds j v = drC d' a c none 0) : Dr wB n0 D (w.setCell ⟨D, j, none⟩ v) d' ∧ GD n0 D w (w.setCell ⟨D, j, none⟩ v) := by
  have hg : Gr (fun k => k = D) w (w.setCell ⟨D, j, none⟩ v) := ⟨rfl, rfl, rfl, by rw [World.size_setCell]; exact Nat.le_refl _, fun j _ hn => heap_setCell_other _ _ _ _ hn⟩
  refine ⟨⟨Gr.below H.bl hg (fun k e => by subst e; exact H.lo), H.lo, H.hi, Nat.le_trans H.sz hg.size, hv.trans H.val, ⟨a, c, ?_, ?_⟩, fun hn => ?_⟩, ⟨hg.os, hg.tape, hg.output, hg.size, fun k hk hn => hg.block k hk fun e => hn (.inl e)⟩⟩
  · have := heap_setCell_same w D j _ _ v h1
    rw [he] at this
    exact this
  · rw [hk]
    refine own_same h2 fun k hk => hg.block k (own_at h2 hk).2.1 fun e => ?_
    have := (own_at h2 hk).1
    have := H.hi
    omega
  · have h3 := (H.nil_ (hk ▸ hn)).symm.trans h1
    obtain ⟨rfl, rfl⟩ := drC_ac (Obj.cells.inj (Option.some.inj h3)).1
    have := heap_setCell_same w D j _ _ v h1
    rw [he] at this
    exact this
/-- The draft's form is set, with no keys. -/
theorem Dr.setF (H : Dr wB n0 D w d) (h1 : w.heap[D]? = some (.cells (drC d a c none 0) 57 (0, 0))) (vs : List Value)
    (hk : d'.keys = []) (hv : d'.val = d.val) (he : setL (drC d a c none 0) 0 vs = drC d' none 0 none 0) : Dr wB n0 D (w.setCells D 0 vs) d' ∧ GD n0 D w (w.setCells D 0 vs) := by
  have hg := setL_grow (k := D) vs 0 w
  refine ⟨⟨Gr.below H.bl hg (fun k e => by subst e; exact H.lo), H.lo, H.hi, Nat.le_trans H.sz hg.size, hv.trans H.val, ⟨none, 0, ?_, ?_⟩, fun _ => ?_⟩, ⟨hg.os, hg.tape, hg.output, hg.size, fun k hk hn => hg.block k hk fun e => hn (.inl e)⟩⟩
  · have := setL_heap vs 0 w _ h1
    rw [he] at this
    exact this
  · rw [hk]
    exact World.ownsRow_nil _ _ _ _
  · have := setL_heap vs 0 w _ h1
    rw [he] at this
    exact this
/-- A draft without keys: its keys may be laid from any later block on. -/
theorem Dr.lift {n1 : Nat} (H : Dr wB n0 D w d) (hk : d.keys = []) (h1 : D < n1) (h2 : n1 ≤ w.heap.size) : Dr wB n1 D w d :=
  ⟨H.bl, H.lo, h1, h2, H.val, ⟨none, 0, H.nil_ hk, by rw [hk]; exact World.ownsRow_nil _ _ _ _⟩, H.nil_⟩
theorem GD.trans {w1 : World} (h : GD n0 D w w1) (k : GD n0 D w1 w') : GD n0 D w w' := Gr.trans h k
theorem Dr.laid (H : Dr wB n0 D w d) (hL : Laid wB) : Laid w := hL.on H.bl
end
end Go.Proofs.YthofdmepofepgaaDoor
