/- Several cells of a block that are stored, one behind the other. Conditions: none. What package frame's Key and Keyed answer, as chapter 13 says. Conditions: none of the program's variables is read. The draft of package textin in memory, and its small functions. Conditions: none. What walks of ranges over functions share: a slice that grows in its box, the loops' own records, the last store. Conditions: none. Rows of texts. Conditions: none. Functions of the draft of package textin: begin, isQuiet, exp, key, and the readings of numbers. Conditions: the listed variables hold what the program's text lays; words of at most 140737488351232 bytes. A row of words in memory. Conditions: none. Functions of the draft of package textin: isQuiet, exp, key, and how numbers are kept. Conditions: the listed variables hold what the program's text lays; words of at most 140737488351232 bytes. How package textin reads a word: a key, a time, a number. Conditions: the listed variables hold what the program's text lays; words of at most 140737488351232 bytes. -/
import Derived.Test.YtfcmnkhfmofioaaDoorG03Joined
import Derived.Test.YtfcmnkhfmofioaaDoorG00Joined
import Derived.Test.YtfcmnkhfmofioaaDoorG02Joined
import Derived.Deep.MidRow
import Derived.RangeFuncNested
import Derived.RangeFuncBound
import Derived.RangeFuncCalls
import Derived.RangeFuncLeaves
import Derived.RangeFuncBox
import Derived.Shelf.Abstract
import Derived.Shelf.RegionOpen
import Derived.OwnWalkIn
import Derived.TacticsInMore
import Derived.LoopNIn
import Derived.LoopIn
import Derived.Maps.AppendAt
import Derived.Laws.AppendOwn
namespace Go.Proofs.YtfcmnkhfmofioaaDoor
open Go.RowKit

/-- Cells of a block, some of them set. -/
def setL (cs : Array Value) (o : Nat) : List Value → Array Value
  | [] => cs
  | v :: vs => setL (cs.setIfInBounds o v) (o + 1) vs
theorem setL_heap {k : Nat} {t : TypeId} : ∀ (vs : List Value) (o : Nat) (W : World) (cs : Array Value), W.heap[k]? = some (.cells cs t (0, 0)) → (W.setCells k o vs).heap[k]? = some (.cells (setL cs o vs) t (0, 0))
  | [], _, _, _, h => h
  | v :: vs, o, W, cs, h => setL_heap vs (o + 1) (W.setCell ⟨k, o, none⟩ v) (cs.setIfInBounds o v) (heap_setCell_same W k o cs t v h)
theorem setL_grow {k : Nat} : ∀ (vs : List Value) (o : Nat) (W : World), Gr (fun j => j = k) W (W.setCells k o vs)
  | [], _, W => Gr.refl _ W
  | v :: vs, o, W => by
    have h1 : Gr (fun j => j = k) W (W.setCell ⟨k, o, none⟩ v) := ⟨rfl, rfl, rfl, by rw [World.size_setCell]; exact Nat.le_refl _, fun j _ hn => heap_setCell_other _ _ _ _ hn⟩
    exact h1.trans (setL_grow vs (o + 1) (W.setCell ⟨k, o, none⟩ v))
theorem Law.setL {w0 w : World} {k : Nat} {cs : Array Value} {t : TypeId} {R : Part} (H : Law w0 w ((boxP k (.cells cs t)).and R)) (o : Nat) (vs : List Value) : Law w0 (w.setCells k o vs) ((boxP k (.cells (setL cs o vs) t)).and R) := by
  have hg := setL_grow (k := k) vs o w
  exact H.turn (A' := boxP k (.cells (Go.Proofs.YtfcmnkhfmofioaaDoor.setL cs o vs) t)) (setL_heap vs o w cs H.q.1) (fun j hj => Nat.lt_of_lt_of_le (H.lt j (.inl hj)).2 hg.size) hg fun j hj => .inl hj
end Go.Proofs.YtfcmnkhfmofioaaDoor

namespace Go.Proofs.YtfcmnkhfmofioaaDoor
open Go.RowKit

set_option maxRecDepth 100000 in
set_option maxHeartbeats 1000000 in
theorem keyed_any (s : ByteArray) (w : World) : Calls Tryd.prog 69 #[.string s] w fun e w' => e = .returned (.bool (keyedN s.data.toList)) ∧ w = w' := by
  obtain ⟨⟨l⟩⟩ := s
  cases l with
  | nil =>
    go_enter Tryd.func69, Tryd.ntmps69
    go_wp2
    go_ret
    exact ⟨rfl, rfl⟩
  | cons c t =>
    have hk : keyedN (⟨⟨c :: t⟩⟩ : ByteArray).data.toList = decide ((t.length : Int) + 1 ≤ 250) := by
      unfold keyedN
      show (decide (1 ≤ t.length + 1) && decide (t.length + 1 ≤ 250)) = _
      rw [decide_eq_true (by omega : 1 ≤ t.length + 1), Bool.true_and]
      exact decide_eq_decide.2 (by omega)
    rw [hk]
    clear hk
    go_enter Tryd.func69, Tryd.ntmps69
    go_wp2
    go_ret
    exact ⟨rfl, rfl⟩
set_option maxRecDepth 100000 in
set_option maxHeartbeats 1000000 in
theorem sign_any (c : UInt8) (w : World) : Calls Tryd.prog 68 #[.int .u8 (c.toNat : Int)] w fun e w' => e = .returned (.bool (signN c)) ∧ w = w' := by
  unfold signN
  by_cases h1 : 32 < c.toNat
  · have i1 : (32 : Int) < (c.toNat : Int) := by omega
    by_cases h2 : c.toNat = 127
    · rw [h2] at i1 ⊢
      clear h1 h2
      go_enter Tryd.func68, Tryd.ntmps68
      go_wp2
      go_ret
      exact ⟨rfl, rfl⟩
    · have i2 : ((c.toNat : Int) == 127) = false := by simp; omega
      rw [decide_eq_true h1, decide_eq_true (show c.toNat ≠ 127 from h2)]
      go_enter Tryd.func68, Tryd.ntmps68
      go_wp2
      go_ret
      exact ⟨by first | rfl | (simp; omega), rfl⟩
  · have i1 : ¬ (32 : Int) < (c.toNat : Int) := by omega
    rw [decide_eq_false h1, Bool.false_and]
    go_enter Tryd.func68, Tryd.ntmps68
    go_wp2
    go_ret
    exact ⟨rfl, rfl⟩
theorem all_at {l : List UInt8} {k : Nat} (h : k < l.length) : (l.drop k).all signN = (signN l[k] && (l.drop (k + 1)).all signN) := by
  rw [List.drop_eq_getElem_cons h]
  rfl
set_option maxRecDepth 100000 in
set_option maxHeartbeats 1000000 in
theorem every_any (s : ByteArray) (hs : s.size ≤ 250) (w : World) : Calls Tryd.prog 70 #[.string s, .func (.func 68) #[] #[]] w fun e w' => e = .returned (.bool (s.data.toList.all signN)) ∧ w = w' := by
  have hsl : s.data.toList.length = s.size := rfl
  go_enter Tryd.func70, Tryd.ntmps70
  go_wp2
  go_loopw [5, 8] (fun _ i wr => ∃ k : Nat, k ≤ s.size ∧ i = .int .i64 k ∧ Hid (s.data.toList.all signN = (s.data.toList.drop k).all signN) ∧ w = wr) (fun _ i _ => s.size - (intOf i).toNat)
  case atStart => exact ⟨0, by omega, rfl, rfl, rfl⟩
  case round =>
    obtain ⟨k, hk, rfl, HR, rfl⟩ := hrel
    by_cases hlt : k < s.size
    · have HA := hide (all_at (l := s.data.toList) (k := k) hlt)
      have HS := hide (fun W => sign_any s[k] W)
      cases hq : signN s[k] with
      | false =>
        have HF : Hid (s.data.toList.all signN = false) := by
          show _ = _
          rw [HR.out, HA.out]
          have : signN s.data.toList[k] = false := hq
          rw [this]
          rfl
        rw [hq] at HS
        clear hq HA
        go_wp2_with (go_at_call 68; refine (HS.out _).mono ?_; rintro e w1 ⟨rfl, rfl⟩)
        go_ret
        exact ⟨by rw [HF.out]; rfl, rfl⟩
      | true =>
        have HF : Hid (s.data.toList.all signN = (s.data.toList.drop (k + 1)).all signN) := by
          show _ = _
          rw [HR.out, HA.out]
          have : signN s.data.toList[k] = true := hq
          rw [this]
          rfl
        rw [hq] at HS
        clear hq HA
        go_wp2_with (go_at_call 68; refine (HS.out _).mono ?_; rintro e w1 ⟨rfl, rfl⟩)
        go_roundw
        case rel => exact ⟨k + 1, by omega, by go_num, HF, by first | trivial | rfl⟩
        case measure => first | (simp [intOf]; done) | (simp [intOf]; omega)
    · have HF : Hid (s.data.toList.all signN = true) := by
        show _ = _
        rw [HR.out, List.drop_eq_nil_of_le (by rw [hsl]; omega)]
        rfl
      go_wp2
      go_ret
      exact ⟨by rw [HF.out]; rfl, rfl⟩
set_option maxRecDepth 100000 in
set_option maxHeartbeats 1000000 in
theorem key_any (s : ByteArray) (w : World) : Calls Tryd.prog 65 #[.string s] w fun e w' => e = .returned (.bool (keyN s.data.toList)) ∧ w = w' := by
  have HK := hide (fun W => keyed_any s W)
  unfold keyN
  cases hq : keyedN s.data.toList with
  | false =>
    rw [hq] at HK
    clear hq
    go_enter Tryd.func65, Tryd.ntmps65
    go_wp2_with (go_at_call 69; refine (HK.out _).mono ?_; rintro e w1 ⟨rfl, rfl⟩)
    go_ret
    exact ⟨rfl, rfl⟩
  | true =>
    rw [hq] at HK
    have hs : s.size ≤ 250 := by
      unfold keyedN at hq
      have hsl : s.data.toList.length = s.size := rfl
      simp at hq
      omega
    have HE := hide (fun W => every_any s hs W)
    generalize s.data.toList.all signN = q at *
    clear hq
    go_enter Tryd.func65, Tryd.ntmps65
    go_wp2_with (first
      | (go_at_call 69; refine (HK.out _).mono ?_; rintro e w1 ⟨rfl, rfl⟩)
      | (go_at_call 70; refine (HE.out _).mono ?_; rintro e w1 ⟨rfl, rfl⟩))
    go_ret
    exact ⟨rfl, rfl⟩
end Go.Proofs.YtfcmnkhfmofioaaDoor

namespace Go.Proofs.YtfcmnkhfmofioaaDoor
set_option linter.unusedVariables false
open Go.RowKit

/-- Texts as cells. -/
def strL (ks : List (List UInt8)) : List Value := ks.map fun k => Value.string (mkB k)
theorem strL_len (ks : List (List UInt8)) : (strL ks).length = ks.length := List.length_map _
theorem strL_app (ks : List (List UInt8)) (x : List UInt8) : strL (ks ++ [x]) = strL ks ++ [.string (mkB x)] := by simp [strL]
/-- The draft's form, and its command, as cells. -/
def fmD (d : Dv) (a : Option Addr) (c : Nat) : Array Value := #[.int .i64 d.dia, .string (mkB d.verb), .int .i64 0, .int .u32 0, .bool d.quiet, .bool d.wcas, .string ⟨#[]⟩, .slice none 0 0, .slice a d.keys.length c, .bool false]
def cmD (d : Dv) (va : Option Addr) (vc : Nat) : Array Value := #[.int .i64 d.op, .string ⟨#[]⟩, .slice va d.val.length vc, .int .u32 d.fl, .int .i64 d.exp, .int .u64 d.cas, .int .u64 d.del, .int .u64 0, .bool false, .bool false]
def drC (d : Dv) (a : Option Addr) (c : Nat) (va : Option Addr) (vc : Nat) : Array Value :=
  #[.int .i64 d.dia, .string (mkB d.verb), .int .i64 0, .int .u32 0, .bool d.quiet, .bool d.wcas, .string ⟨#[]⟩, .slice none 0 0, .slice a d.keys.length c, .bool false,
    .int .i64 d.op, .string ⟨#[]⟩, .slice va d.val.length vc, .int .u32 d.fl, .int .i64 d.exp, .int .u64 d.cas, .int .u64 d.del, .int .u64 0, .bool false, .bool false, .int .u64 d.size, .bool d.sized]
section
variable {w : World} {D : Nat} {d : Dv} {a va : Option Addr} {c vc : Nat} {t : TypeId}
theorem dr_at (h : w.heap[D]? = some (.cells (drC d a c va vc) t (0, 0))) (j : Nat) (v : Value) (hv : (drC d a c va vc)[j]? = some v) : w.cell? ⟨D, j, none⟩ = some v := by
  unfold World.cell?
  rw [h]
  exact hv
theorem dr_verb (h : w.heap[D]? = some (.cells (drC d a c va vc) t (0, 0))) : w.cell? ⟨D, 1, none⟩ = some (.string (mkB d.verb)) := dr_at h 1 _ rfl
theorem dr_quiet (h : w.heap[D]? = some (.cells (drC d a c va vc) t (0, 0))) : w.cell? ⟨D, 4, none⟩ = some (.bool d.quiet) := dr_at h 4 _ rfl
theorem dr_keys (h : w.heap[D]? = some (.cells (drC d a c va vc) t (0, 0))) : w.cell? ⟨D, 8, none⟩ = some (.slice a d.keys.length c) := dr_at h 8 _ rfl
theorem dr_op (h : w.heap[D]? = some (.cells (drC d a c va vc) t (0, 0))) : w.cell? ⟨D, 10, none⟩ = some (.int .i64 d.op) := dr_at h 10 _ rfl
theorem dr_val (h : w.heap[D]? = some (.cells (drC d a c va vc) t (0, 0))) : w.cell? ⟨D, 12, none⟩ = some (.slice va d.val.length vc) := dr_at h 12 _ rfl
theorem dr_fl (h : w.heap[D]? = some (.cells (drC d a c va vc) t (0, 0))) : w.cell? ⟨D, 13, none⟩ = some (.int .u32 d.fl) := dr_at h 13 _ rfl
theorem dr_exp (h : w.heap[D]? = some (.cells (drC d a c va vc) t (0, 0))) : w.cell? ⟨D, 14, none⟩ = some (.int .i64 d.exp) := dr_at h 14 _ rfl
theorem dr_cas (h : w.heap[D]? = some (.cells (drC d a c va vc) t (0, 0))) : w.cell? ⟨D, 15, none⟩ = some (.int .u64 d.cas) := dr_at h 15 _ rfl
theorem dr_del (h : w.heap[D]? = some (.cells (drC d a c va vc) t (0, 0))) : w.cell? ⟨D, 16, none⟩ = some (.int .u64 d.del) := dr_at h 16 _ rfl
theorem dr_size (h : w.heap[D]? = some (.cells (drC d a c va vc) t (0, 0))) : w.cell? ⟨D, 20, none⟩ = some (.int .u64 d.size) := dr_at h 20 _ rfl
theorem dr_sized (h : w.heap[D]? = some (.cells (drC d a c va vc) t (0, 0))) : w.cell? ⟨D, 21, none⟩ = some (.bool d.sized) := dr_at h 21 _ rfl
theorem dr_form (h : w.heap[D]? = some (.cells (drC d a c va vc) t (0, 0))) : w.rangeAt D 0 (fmD d a c).toList := fun j v hv => by
  have hj : j < 10 := (List.getElem?_eq_some_iff.1 hv).1
  refine dr_at h _ v ?_
  match j, hj with
  | 0, _ | 1, _ | 2, _ | 3, _ | 4, _ | 5, _ | 6, _ | 7, _ | 8, _ | 9, _ => exact hv
theorem dr_cmd (h : w.heap[D]? = some (.cells (drC d a c va vc) t (0, 0))) : w.rangeAt D 10 (cmD d va vc).toList := fun j v hv => by
  have hj : j < 10 := (List.getElem?_eq_some_iff.1 hv).1
  refine dr_at h _ v ?_
  match j, hj with
  | 0, _ | 1, _ | 2, _ | 3, _ | 4, _ | 5, _ | 6, _ | 7, _ | 8, _ | 9, _ => exact hv
theorem dr_thereF (h : w.heap[D]? = some (.cells (drC d a c va vc) t (0, 0))) : w.there D 0 10 := fun j hj => by
  refine ⟨?_, frozen_of_row _ _ _ _ _ h⟩
  unfold World.cell?
  rw [h]
  match j, hj with
  | 0, _ | 1, _ | 2, _ | 3, _ | 4, _ | 5, _ | 6, _ | 7, _ | 8, _ | 9, _ => rfl
theorem dr_frozen (h : w.heap[D]? = some (.cells (drC d a c va vc) t (0, 0))) (j : Nat) : w.frozen? ⟨D, j, none⟩ = false := frozen_of_row _ _ _ _ _ h
end
theorem fm_size (d : Dv) (a : Option Addr) (c : Nat) : (Tryd.prog.info? 29).map (·.size) = some (fmD d a c).size := by
  have h : (Tryd.prog.info? 29).map (·.size) = some 10 := by kernel_rfl
  exact h
theorem cm_size (d : Dv) (va : Option Addr) (vc : Nat) : (Tryd.prog.info? 40).map (·.size) = some (cmD d va vc).size := by
  have h : (Tryd.prog.info? 40).map (·.size) = some 10 := by kernel_rfl
  exact h
theorem fm_one (d : Dv) (a : Option Addr) (c : Nat) : (fmD d a c).all (·.oneCell') = true := by simp [fmD, Value.oneCell']
theorem cm_one (d : Dv) (va : Option Addr) (vc : Nat) : (cmD d va vc).all (·.oneCell') = true := by simp [cmD, Value.oneCell']

section
variable (d : Dv) (a va : Option Addr) (c vc : Nat)
theorem set_quiet (x : Bool) : (drC d a c va vc).setIfInBounds 4 (.bool x) = drC { d with quiet := x } a c va vc := by simp [drC]
theorem set_op (x : Int) : (drC d a c va vc).setIfInBounds 10 (.int .i64 x) = drC { d with op := x } a c va vc := by simp [drC]
theorem set_fl (x : Int) : (drC d a c va vc).setIfInBounds 13 (.int .u32 x) = drC { d with fl := x } a c va vc := by simp [drC]
theorem set_exp (x : Int) : (drC d a c va vc).setIfInBounds 14 (.int .i64 x) = drC { d with exp := x } a c va vc := by simp [drC]
theorem set_cas (x : Int) : (drC d a c va vc).setIfInBounds 15 (.int .u64 x) = drC { d with cas := x } a c va vc := by simp [drC]
theorem set_del (x : Int) : (drC d a c va vc).setIfInBounds 16 (.int .u64 x) = drC { d with del := x } a c va vc := by simp [drC]
theorem set_size (x : Int) : (drC d a c va vc).setIfInBounds 20 (.int .u64 x) = drC { d with size := x } a c va vc := by simp [drC]
theorem set_sized (x : Bool) : (drC d a c va vc).setIfInBounds 21 (.bool x) = drC { d with sized := x } a c va vc := by simp [drC]
theorem set_keys (a' : Option Addr) (c' : Nat) (ks : List (List UInt8)) : (drC d a c va vc).setIfInBounds 8 (.slice a' ks.length c') = drC { d with keys := ks } a' c' va vc := by simp [drC]
theorem set_val (a' : Option Addr) (c' : Nat) (v : List UInt8) : (drC d a c va vc).setIfInBounds 12 (.slice a' v.length c') = drC { d with val := v } a c a' c' := by simp [drC]
theorem set_form (d' : Dv) (a' : Option Addr) (c' : Nat) : setL (drC d a c va vc) 0 (fmD d' a' c').toList = drC { d with dia := d'.dia, verb := d'.verb, quiet := d'.quiet, wcas := d'.wcas, keys := d'.keys } a' c' va vc := by simp [setL, drC, fmD]
end
/-- What a function of the draft may write: the draft itself, and what lies from n0 on. -/
abbrev GD (n0 D : Nat) (w w' : World) : Prop := Gr (fun k => k = D ∨ n0 ≤ k) w w'
/-- The draft: its block, and the row of its keys, which is from n0 on. -/
structure Dr (wB : World) (n0 D : Nat) (w : World) (d : Dv) : Prop where
  bl : Below wB.heap.size wB w
  lo : wB.heap.size ≤ D
  hi : D < n0
  sz : n0 ≤ w.heap.size
  val : d.val = []
  st : ∃ a c, w.heap[D]? = some (.cells (drC d a c none 0) 62 (0, 0)) ∧ w.ownsRow n0 9 1 (.slice a d.keys.length c) d.keys.length (strL d.keys)
  nil_ : d.keys = [] → w.heap[D]? = some (.cells (drC d none 0 none 0) 62 (0, 0))
theorem drC_ac {d : Dv} {a a' : Option Addr} {c c' : Nat} (h : drC d a c none 0 = drC d a' c' none 0) : a = a' ∧ c = c' := by
  have h1 := congrArg (fun x : Array Value => x[8]?) h
  have h2 : some (Value.slice a d.keys.length c) = some (Value.slice a' d.keys.length c') := h1
  have h3 := Value.slice.inj (Option.some.inj h2)
  exact ⟨h3.1, h3.2.2⟩
section
variable {wB w w' : World} {n0 D : Nat} {d d' : Dv} {a : Option Addr} {c : Nat}
/-- What leaves old blocks as they are. -/
theorem Dr.on (H : Dr wB n0 D w d) (hg : w.grownBy w' none) : Dr wB n0 D w' d := by
  obtain ⟨a, c, h1, h2⟩ := H.st
  have hD : D < w.heap.size := Nat.lt_of_lt_of_le H.hi H.sz
  exact ⟨gr_below H.bl hg (fun _ e => by cases e), H.lo, H.hi, Nat.le_trans H.sz hg.size, H.val, ⟨a, c, (hg.block D hD (by simp)).trans h1, own_same h2 fun k hk => hg.block k (own_at h2 hk).2.1 (by simp)⟩, fun hn => (hg.block D hD (by simp)).trans (H.nil_ hn)⟩
theorem GD.of (hg : w.grownBy w' none) : GD n0 D w w' := ⟨hg.1, hg.2, hg.3, hg.4, fun k hk _ => hg.5 k hk (by simp)⟩
theorem GD.refl (w : World) : GD n0 D w w := Gr.refl _ w
/-- One cell of the draft is set. -/
theorem Dr.set (H : Dr wB n0 D w d) (h1 : w.heap[D]? = some (.cells (drC d a c none 0) 62 (0, 0))) (h2 : w.ownsRow n0 9 1 (.slice a d.keys.length c) d.keys.length (strL d.keys)) (j : Nat) (v : Value)
    (hk : d'.keys = d.keys) (hv : d'.val = d.val) (he : (drC d a c none 0).setIfInBounds j v = drC d' a c none 0) : Dr wB n0 D (w.setCell ⟨D, j, none⟩ v) d' ∧ GD n0 D w (w.setCell ⟨D, j, none⟩ v) := by
  have hg : Gr (fun k => k = D) w (w.setCell ⟨D, j, none⟩ v) := ⟨rfl, rfl, rfl, by rw [World.size_setCell]; exact Nat.le_refl _, fun j _ hn => heap_setCell_other _ _ _ _ hn⟩
  refine ⟨⟨Gr.below H.bl hg (fun k e => by subst e; exact H.lo), H.lo, H.hi, Nat.le_trans H.sz hg.size, hv.trans H.val, ⟨a, c, ?_, ?_⟩, fun hn => ?_⟩, ⟨hg.os, hg.tape, hg.output, hg.size, fun k hk hn => hg.block k hk fun e => hn (.inl e)⟩⟩
  · have := heap_setCell_same w D j _ _ v h1
    rw [he] at this
    exact this
  · rw [hk]
    refine own_same h2 fun k hk => hg.block k (own_at h2 hk).2.1 fun e => ?_
    have := (own_at h2 hk).1
    have := H.hi
    omega
  · have h3 := (H.nil_ (hk ▸ hn)).symm.trans h1
    obtain ⟨rfl, rfl⟩ := drC_ac (Obj.cells.inj (Option.some.inj h3)).1
    have := heap_setCell_same w D j _ _ v h1
    rw [he] at this
    exact this
/-- The draft's form is set, with no keys. -/
theorem Dr.setF (H : Dr wB n0 D w d) (h1 : w.heap[D]? = some (.cells (drC d a c none 0) 62 (0, 0))) (vs : List Value)
    (hk : d'.keys = []) (hv : d'.val = d.val) (he : setL (drC d a c none 0) 0 vs = drC d' none 0 none 0) : Dr wB n0 D (w.setCells D 0 vs) d' ∧ GD n0 D w (w.setCells D 0 vs) := by
  have hg := setL_grow (k := D) vs 0 w
  refine ⟨⟨Gr.below H.bl hg (fun k e => by subst e; exact H.lo), H.lo, H.hi, Nat.le_trans H.sz hg.size, hv.trans H.val, ⟨none, 0, ?_, ?_⟩, fun _ => ?_⟩, ⟨hg.os, hg.tape, hg.output, hg.size, fun k hk hn => hg.block k hk fun e => hn (.inl e)⟩⟩
  · have := setL_heap vs 0 w _ h1
    rw [he] at this
    exact this
  · rw [hk]
    exact World.ownsRow_nil _ _ _ _
  · have := setL_heap vs 0 w _ h1
    rw [he] at this
    exact this
/-- A draft without keys: its keys may be laid from any later block on. -/
theorem Dr.lift {n1 : Nat} (H : Dr wB n0 D w d) (hk : d.keys = []) (h1 : D < n1) (h2 : n1 ≤ w.heap.size) : Dr wB n1 D w d :=
  ⟨H.bl, H.lo, h1, h2, H.val, ⟨none, 0, H.nil_ hk, by rw [hk]; exact World.ownsRow_nil _ _ _ _⟩, H.nil_⟩
theorem GD.trans {w1 : World} (h : GD n0 D w w1) (k : GD n0 D w1 w') : GD n0 D w w' := Gr.trans h k
theorem Dr.laid (H : Dr wB n0 D w d) (hL : Laid wB) : Laid w := hL.on H.bl
end
end Go.Proofs.YtfcmnkhfmofioaaDoor

namespace Go.Proofs.YtfcmnkhfmofioaaDoor
open Go.RowKit Go.Shelf

theorem row_beyond {W : World} {base e size k : Nat} {v : Value} {xs : List Value} (h : W.ownsRow base e size v k xs) {B : Nat} (hB : B < base) : some B ≠ v.ownBlock := by
  rcases h.2 with ⟨rfl, _⟩ | ⟨g, cap, cur, rfl, hg, _⟩
  · simp [Value.ownBlock]
  · intro e'
    have : B = g := by simpa [Value.ownBlock] using e'
    omega

/-- Behind an append to a boxed slice whose row lies beyond all boxes: the store goes through, the box holds the longer slice, the other boxes hold what they held. -/
theorem appended3 {W w1 : World} {n₀ B b : Nat} {t e : TypeId} {size : Nat} {v v' : Value} {k m : Nat} {xs ys : List Value} {tmp : Obj}
    (hv : Boxed W B t v) (hrow : W.ownsRow b e size v k xs) (hn : b ≤ W.heap.size) (hBb : B < b) (h0 : n₀ ≤ B)
    (hown' : w1.ownsRow b e size v' m ys) (hgrow : (W.alloc tmp).grownBy w1 v.ownBlock) :
    Boxed w1 B t v ∧ Boxed (w1.setCell ⟨B, 0, none⟩ v') B t v' ∧ (w1.setCell ⟨B, 0, none⟩ v').ownsRow b e size v' m ys ∧ KeepsOthers W (w1.setCell ⟨B, 0, none⟩ v') ∧ Below n₀ W (w1.setCell ⟨B, 0, none⟩ v') ∧
      (∀ B' t' u, Boxed W B' t' u → B' < b → B' ≠ B → Boxed (w1.setCell ⟨B, 0, none⟩ v') B' t' u) := by
  have hv1 : Boxed w1 B t v := (hv.alloc tmp).kept hgrow (row_beyond hrow hBb)
  refine ⟨hv1, hv1.set v', ownsRow_setCell_below hown' hBb v', ?_, ?_, ?_⟩
  · refine ((KeepsOthers.alloc W tmp).trans (KeepsOthers.of_grownBy hgrow fun j o ej hj => ?_)).trans (KeepsOthers.setCell _ _ _)
    rcases (hrow.alloc tmp).2 with ⟨rfl, _⟩ | ⟨g, cap, cur, rfl, _, hgb, _⟩
    · simp [Value.ownBlock] at ej
    · obtain rfl : g = j := by simpa [Value.ownBlock] using ej
      rw [hgb] at hj; cases hj; rfl
  · refine (((Below.refl n₀ W).alloc (by omega) tmp).grown hgrow (by simp; omega) fun j ej => ?_).setCell (p := ⟨B, 0, none⟩) h0 v'
    rcases hrow.2 with ⟨rfl, _⟩ | ⟨g, cap, cur, rfl, hb, _, _⟩
    · simp [Value.ownBlock] at ej
    · obtain rfl : g = j := by simpa [Value.ownBlock] using ej
      omega
  · intro B' t' u h hb hne
    exact Boxed.other ((h.alloc tmp).kept hgrow (row_beyond hrow hb)) hne v'
theorem deferred_own {β : Type} {D B : Nat} (h : D < B) : OwnFrom B (fun (_ : β) W => W.heap[D]? = some (.deferred (some []))) := fun _ W W' row hs hg hr =>
  (hg.block D (Array.getElem?_eq_some_iff.1 hs).1 (fun e => by have := (hr D e.symm).1; omega)).trans hs

/-- Behind the last store: the answer lies in its cell, and nothing that was there is written. -/
theorem last_store {w W : World} {R D : Nat} {t : TypeId} {b0 b : Bool} (hR : Boxed W R t (.bool b0)) (hD : w.heap.size ≤ D) (hRD : R ≠ D) (hwR : w.heap.size ≤ R) (hB : Below w.heap.size w W) (hK : W.heap[D]? = some (.deferred (some []))) :
    (W.setCell ⟨R, 0, none⟩ (.bool b)).heap[D]? = some (.deferred (some [])) ∧ ((W.setCell ⟨R, 0, none⟩ (.bool b)).putObj D (.deferred none)).cell? ⟨R, 0, none⟩ = some (.bool b) ∧ Below w.heap.size w ((W.setCell ⟨R, 0, none⟩ (.bool b)).putObj D (.deferred none)) := by
  have h1 := (KeepsOthers.setCell W ⟨R, 0, none⟩ (.bool b)).same D _ hK rfl
  refine ⟨h1, ?_, ?_⟩
  · rw [World.cell?_of_block (w := W.setCell ⟨R, 0, none⟩ (.bool b)) (World.putObj_heap_other hRD)]
    exact (hR.set (.bool b)).cell
  · exact (hB.setCell (p := ⟨R, 0, none⟩) hwR (.bool b)).trans (belowK_b (w := w) (Nat.le_refl _) _ D _ _ hD h1 rfl rfl)

/-- The same behind two loops: both records are taken, the inner one's first. -/
theorem last_store2 {w W : World} {R D E : Nat} {t : TypeId} {b0 b : Bool} (hR : Boxed W R t (.bool b0)) (hD : w.heap.size ≤ D) (hE : w.heap.size ≤ E) (hDE : E ≠ D) (hRD : R ≠ D) (hRE : R ≠ E) (hwR : w.heap.size ≤ R) (hB : Below w.heap.size w W) (hK : W.heap[D]? = some (.deferred (some []))) (hE2 : W.heap[E]? = some (.deferred (some []))) :
    (W.setCell ⟨R, 0, none⟩ (.bool b)).heap[D]? = some (.deferred (some [])) ∧ ((W.setCell ⟨R, 0, none⟩ (.bool b)).putObj D (.deferred none)).heap[E]? = some (.deferred (some [])) ∧ (((W.setCell ⟨R, 0, none⟩ (.bool b)).putObj D (.deferred none)).putObj E (.deferred none)).cell? ⟨R, 0, none⟩ = some (.bool b) ∧ Below w.heap.size w (((W.setCell ⟨R, 0, none⟩ (.bool b)).putObj D (.deferred none)).putObj E (.deferred none)) := by
  obtain ⟨h1, h2, h3⟩ := last_store (b := b) hR hD hRD hwR hB hK
  have k1 := (KeepsOthers.setCell W ⟨R, 0, none⟩ (.bool b)).same E _ hE2 rfl
  have k2 : ((W.setCell ⟨R, 0, none⟩ (.bool b)).putObj D (.deferred none)).heap[E]? = some (.deferred (some [])) := (World.putObj_heap_other hDE).trans k1
  refine ⟨h1, k2, ?_, ?_⟩
  · rw [World.cell?_of_block (w := (W.setCell ⟨R, 0, none⟩ (.bool b)).putObj D (.deferred none)) (World.putObj_heap_other hRE)]
    exact h2
  · exact h3.trans (belowK_b (w := w) (Nat.le_refl _) _ E _ _ hE k2 rfl rfl)
end Go.Proofs.YtfcmnkhfmofioaaDoor

namespace Go.Proofs.YtfcmnkhfmofioaaDoor
open Go.RowKit Go.Shelf

theorem info_str : (Tryd.prog.info? 9).map (fun i => (i.zero, i.size, i.bytes)) = some (some (.string ⟨#[]⟩), 1, 16) := by kernel_rfl
/-- Texts as cells. -/
def strV (xs : List ByteArray) : List Value := xs.map Value.string
theorem strV_len (xs : List ByteArray) : (strV xs).length = xs.length := List.length_map _
theorem strV_app (xs : List ByteArray) (x : ByteArray) : strV (xs ++ [x]) = strV xs ++ [.string x] := by simp [strV]
end Go.Proofs.YtfcmnkhfmofioaaDoor

namespace Go.Proofs.YtfcmnkhfmofioaaDoor
set_option linter.unusedVariables false
open Go.RowKit

theorem wcas_cases (v : List UInt8) : (v = vb_gets ∧ (begun v).wcas = true) ∨ ((v == vb_gets) = false ∧ v = vb_gats ∧ (begun v).wcas = true) ∨ ((v == vb_gets) = false ∧ (v == vb_gats) = false ∧ (begun v).wcas = false) := by
  by_cases h1 : v = vb_gets
  · exact .inl ⟨h1, by simp [begun, h1]⟩
  · by_cases h2 : v = vb_gats
    · exact .inr (.inl ⟨by simpa using h1, h2, by simp [begun, h2]⟩)
    · exact .inr (.inr ⟨by simpa using h1, by simpa using h2, by simp [begun, h1, h2]⟩)
section
variable {wB w : World} {n0 D : Nat} {d : Dv}
set_option maxRecDepth 100000 in
set_option maxHeartbeats 2000000 in
theorem begin_any (H : Dr wB n0 D w zeroD) (v : List UInt8) : Calls Tryd.prog 45 #[.pointer (some ⟨D, 0, none⟩), .string (mkB v)] w fun e w' => e = .returned (.bool (opN v).isSome) ∧ Dr wB n0 D w' (begun v) ∧ GD n0 D w w' := by
  obtain ⟨a, c, h1, h2⟩ := H.st
  have HO := hide (fun W => opOf_any v W)
  obtain ⟨op, hop⟩ : ∃ op, op = (opN v).getD 0 := ⟨_, rfl⟩
  rw [← hop] at HO
  obtain ⟨is, his⟩ : ∃ is, is = (opN v).isSome := ⟨_, rfl⟩
  rw [← his] at HO ⊢
  obtain ⟨K1, G1⟩ := H.set (d' := { zeroD with op := op }) h1 h2 10 (.int .i64 op) rfl rfl (set_op _ _ _ _ _ _)
  obtain ⟨a1, c1, q1, q2⟩ := K1.st
  obtain ⟨K2, G2⟩ := K1.setF (d' := begun v) q1 (fmD (begun v) none 0).toList rfl rfl (by rw [set_form, hop]; rfl)
  have cop := dr_op h1
  have fop := dr_frozen h1 10
  have ht := dr_thereF q1
  have HK := hide (And.intro K2 (G1.trans G2))
  clear K1 K2 G1 G2 H h1 h2 q1 q2 hop his
  rcases wcas_cases v with ⟨rfl, -⟩ | ⟨e1, rfl, -⟩ | ⟨e1, e2, hw⟩
  · simp only [mkB, vb_gets] at *
    go_enter Tryd.func45, Tryd.ntmps45
    go_wp2_with (first
      | (go_at_call 53; refine (HO.out _).mono ?_; rintro e w1 ⟨rfl, rfl⟩)
      | (refine wpList_store_mid rfl 29 _ _ rfl D 0 (fmD (begun vb_gets) none 0) rfl rfl ht (fm_size _ _ _) (fm_one _ _ _) ?_))
    go_ret
    exact ⟨rfl, HK.out⟩
  · simp only [mkB, vb_gats, vb_gets] at *
    go_enter Tryd.func45, Tryd.ntmps45
    go_wp2_with (first
      | (go_at_call 53; refine (HO.out _).mono ?_; rintro e w1 ⟨rfl, rfl⟩)
      | (refine wpList_store_mid rfl 29 _ _ rfl D 0 (fmD (begun vb_gats) none 0) rfl rfl ht (fm_size _ _ _) (fm_one _ _ _) ?_))
    go_ret
    exact ⟨rfl, HK.out⟩
  · have hf : Hid (fmD (begun v) none 0 = #[.int .i64 1, .string ⟨v.toArray⟩, .int .i64 0, .int .u32 0, .bool false, .bool false, .string ⟨#[]⟩, .slice none 0 0, .slice none 0 0, .bool false]) := by show _ = _; unfold fmD; rw [hw]; rfl
    clear hw
    simp only [mkB, vb_gats, vb_gets] at *
    go_enter Tryd.func45, Tryd.ntmps45
    go_wp2_with (first
      | (go_at_call 53; refine (HO.out _).mono ?_; rintro e w1 ⟨rfl, rfl⟩)
      | (refine wpList_store_mid rfl 29 _ _ rfl D 0 (fmD (begun v) none 0) rfl (by rw [hf.out]; rfl) ht (fm_size _ _ _) (fm_one _ _ _) ?_))
    go_ret
    exact ⟨rfl, HK.out⟩
end
end Go.Proofs.YtfcmnkhfmofioaaDoor

namespace Go.Proofs.YtfcmnkhfmofioaaDoor
set_option linter.unusedVariables false
open Go.RowKit

/-- A row of words, in a block of which Q tells. -/
structure Wu (Q : Nat → Prop) (w : World) (a : Option Addr) (len cap : Nat) (ws : List (List UInt8)) : Prop where
  n : ws.length = len
  c : len ≤ cap
  m : cap ≤ maxLen
  nil_ : a = none → cap = 0
  at_ : len = 0 ∨ ∃ b off, a = some ⟨b, off, none⟩ ∧ Q b ∧ b < w.heap.size ∧ ∀ i, ∀ h : i < ws.length, w.cell? ⟨b, off + i, none⟩ = some (.string (mkB ws[i]))
section
variable {Q : Nat → Prop} {w w' : World} {a : Option Addr} {len cap : Nat} {ws : List (List UInt8)}
theorem Wu.on (h : Wu Q w a len cap ws) (hq : ∀ b, Q b → b < w.heap.size → w'.heap[b]? = w.heap[b]?) : Wu Q w' a len cap ws := by
  refine ⟨h.n, h.c, h.m, h.nil_, ?_⟩
  rcases h.at_ with h0 | ⟨b, off, e, hb, hl, hc⟩
  · exact .inl h0
  · have hs := hq b hb hl
    refine .inr ⟨b, off, e, hb, ?_, fun i hi => (World.cell?_of_block hs).trans (hc i hi)⟩
    rcases Nat.lt_or_ge b w'.heap.size with h' | h'
    · exact h'
    · rw [Array.getElem?_eq_none h'] at hs
      rw [Array.getElem?_eq_getElem hl] at hs
      cases hs
theorem Wu.get (h : Wu Q w a len cap ws) {i : Nat} (hi : i < len) : ∃ b off, a = some ⟨b, off, none⟩ ∧ w.cell? ⟨b, off + i, none⟩ = some (.string (mkB (ws[i]'(by rw [h.n]; exact hi)))) := by
  rcases h.at_ with h0 | ⟨b, off, e, hb, hl, hc⟩
  · omega
  · exact ⟨b, off, e, hc i _⟩
/-- 'ws[:j]' -/
theorem Wu.front (h : Wu Q w a len cap ws) {j : Nat} (hj : j ≤ len) : Wu Q w a j cap (ws.take j) := by
  have hc := h.c
  refine ⟨by rw [List.length_take, h.n]; omega, by omega, h.m, h.nil_, ?_⟩
  rcases h.at_ with h0 | ⟨b, off, e, hb, hl, hx⟩
  · exact .inl (by omega)
  · refine .inr ⟨b, off, e, hb, hl, fun i hi => ?_⟩
    rw [List.length_take] at hi
    rw [hx i (by omega), List.getElem_take]
/-- 'ws[1:]' -/
theorem Wu.tail (h : Wu Q w a len cap ws) (h1 : 1 ≤ len) : ∃ a', (∀ W : World, (Instr.sliceAt 27 (.slice a len cap) (some (.int .i64 1)) none none).run Tryd.prog W = .ok (.slice a' (len - 1) (cap - 1)) W) ∧ Wu Q w a' (len - 1) (cap - 1) ws.tail := by
  have hc := h.c
  have hm := h.m
  rcases h.at_ with h0 | ⟨b, off, e, hb, hl, hx⟩
  · omega
  · subst e
    have h2 : (1 : Int) ≤ (len : Int) := by omega
    by_cases e : cap = 1
    · refine ⟨some ⟨b, off, none⟩, fun W => ?_, by rw [List.length_tail, h.n], by omega, by omega, fun e => by (cases e), .inl (by omega)⟩
      subst e
      go_simp
    · refine ⟨some (Addr.add ⟨b, off, none⟩ 1), fun W => ?_, by rw [List.length_tail, h.n], by omega, by omega, fun e => by (cases e), ?_⟩
      · go_simp
      · refine .inr ⟨b, off + 1, by rw [add_at], hb, hl, fun i hi => ?_⟩
        rw [List.length_tail] at hi
        rw [Nat.add_assoc, Nat.add_comm 1 i, hx (i + 1) (by omega)]
        simp
end
theorem own_base {n0 n1 n : Nat} {e : TypeId} {w : World} {v : Value} {xs : List Value} (h : w.ownsRow n0 e 1 v n xs) (hn : n1 ≤ n0) : w.ownsRow n1 e 1 v n xs := ⟨h.1, h.2.imp id fun ⟨g, cp, cur, a1, a2, a3⟩ => ⟨g, cp, cur, a1, Nat.le_trans hn a2, a3⟩⟩
theorem size_mk (l : List UInt8) : (mkB l).size = l.length := by simp [mkB, ByteArray.size]
end Go.Proofs.YtfcmnkhfmofioaaDoor

namespace Go.Proofs.YtfcmnkhfmofioaaDoor
set_option linter.unusedVariables false
open Go.RowKit

section
variable {Q : Nat → Prop} {wB w w' w1 : World} {n0 D : Nat} {d : Dv} {a va : Option Addr} {len cap vc : Nat} {ws : List (List UInt8)} {t : TypeId}
theorem quiet_no {op : Int} (h : op = 0 ∨ op = 1 ∨ op = 15 ∨ op = 16) (ws : List (List UInt8)) (many : Nat) : quietN op ws many = false := by
  unfold quietN mayQ
  simp [h]
theorem quiet_may {op : Int} (h : ¬ (op = 0 ∨ op = 1 ∨ op = 15 ∨ op = 16)) (ws : List (List UInt8)) (many : Nat) : quietN op ws many = (decide (ws.length = many + 1) && decide (ws[many]? = some t_noreply)) := by
  unfold quietN mayQ
  simp [h]
set_option maxRecDepth 100000 in
set_option maxHeartbeats 2000000 in
theorem isQuiet_any {c : Nat} {ka : Option Addr} (hD : w.heap[D]? = some (.cells (drC d ka c va vc) t (0, 0))) (hW : Wu Q w a len cap ws) (many : Nat) (hm : many ≤ 1000000) : Calls Tryd.prog 47 #[.pointer (some ⟨D, 0, none⟩), .slice a len cap, .int .i64 (many : Int)] w fun e w' => e = .returned (.bool (quietN d.op ws many)) ∧ w = w' := by
  have c1 := dr_op hD
  clear hD
  by_cases hop : d.op = 0 ∨ d.op = 1 ∨ d.op = 15 ∨ d.op = 16
  · rw [quiet_no hop]
    rcases hop with h | h | h | h
    all_goals
      rw [h] at c1
      clear h
      go_enter Tryd.func47, Tryd.ntmps47
      go_wp2
      go_ret
      exact ⟨rfl, rfl⟩
  · rw [quiet_may hop]
    obtain ⟨op, ho⟩ : ∃ op, d.op = op := ⟨_, rfl⟩
    rw [ho] at c1 hop
    have o0 : ¬ op = 0 := fun h => hop (.inl h)
    have o1 : ¬ op = 1 := fun h => hop (.inr (.inl h))
    have o2 : ¬ op = 15 := fun h => hop (.inr (.inr (.inl h)))
    have o3 : ¬ op = 16 := fun h => hop (.inr (.inr (.inr h)))
    clear hop ho
    have e1 : wrap64 ((many : Int) + 1) = (many : Int) + 1 := by unfold wrap64; omega
    by_cases hn : len = many + 1
    · obtain ⟨b, off, rfl, hc⟩ := hW.get (i := many) (by omega)
      have hlen := hW.n
      have hlt : many < ws.length := by omega
      rw [hlen, List.getElem?_eq_getElem hlt]
      generalize ws[many] = x at *
      have hli : (len : Int) = (many : Int) + 1 := by omega
      simp only [mkB] at hc
      have e2 : (decide (len = many + 1) && decide (some x = some t_noreply)) = (x == [110, 111, 114, 101, 112, 108, 121]) := by
        rw [decide_eq_true hn, Bool.true_and]
        simp only [Option.some.injEq, t_noreply]
        by_cases hx : x = [110, 111, 114, 101, 112, 108, 121]
        · simp [hx]
        · rw [decide_eq_false hx]; symm; simpa using hx
      rw [e2]
      subst hn
      clear e2 hlen hlt hW hli hm
      go_enter Tryd.func47, Tryd.ntmps47
      go_wp2
      go_ret
      exact ⟨rfl, rfl⟩
    · rw [hW.n, decide_eq_false hn, Bool.false_and]
      have hni : ¬ (len : Int) = (many : Int) + 1 := by omega
      clear hn hm hW
      go_enter Tryd.func47, Tryd.ntmps47
      go_wp2
      go_ret
      exact ⟨rfl, rfl⟩
end
end Go.Proofs.YtfcmnkhfmofioaaDoor

namespace Go.Proofs.YtfcmnkhfmofioaaDoor
set_option linter.unusedVariables false
open Go.RowKit

section
variable {wB w w1 : World} {n0 D : Nat} {d : Dv} {a : Option Addr} {c : Nat} {x : List UInt8}
theorem list_mk (l : List UInt8) : (mkB l).data.toList = l := by simp [mkB]
/-- What a reading does. -/
def ReadEnd (wB : World) (n0 D : Nat) (w : World) (r : Dv × List UInt8) (e : Ending) (w' : World) : Prop := e = .returned (.string (mkB r.2)) ∧ Dr wB n0 D w' r.1 ∧ GD n0 D w w'
theorem read_exp_no (h : sgnB x = false) : readW 1 d x = (d, t_bad) := by
  unfold sgnB at h
  unfold readW
  rw [if_neg (by decide), if_pos rfl]
  cases hs : sgn x with
  | none => rfl
  | some z => rw [hs] at h; cases h
theorem read_exp_yes (h : sgnB x = true) : readW 1 d x = ({ d with exp := sgnV x }, []) := by
  unfold sgnB at h
  unfold readW sgnV
  rw [if_neg (by decide), if_pos rfl]
  cases hs : sgn x with
  | none => rw [hs] at h; cases h
  | some z => rfl
set_option maxRecDepth 100000 in
set_option maxHeartbeats 2000000 in
theorem exp_any (hL : Laid wB) (H : Dr wB n0 D w d) (hx : x.length ≤ 140737488351232) : Calls Tryd.prog 55 #[.pointer (some ⟨D, 0, none⟩), .string (mkB x)] w fun e w' => ReadEnd wB n0 D w (readW 1 d x) e w' := by
  have HS := hide (signed_any (mkB x) (by rw [size_mk]; exact hx) w (H.laid hL))
  rw [list_mk] at HS
  cases hb : sgnB x
  · rw [read_exp_no hb]
    rw [hb] at HS
    have HH := hide H
    clear hb H
    generalize sgnV x = z at *
    go_enter Tryd.func55, Tryd.ntmps55
    go_wp2_with (go_at_call 61; refine HS.out.mono ?_; rintro e w1 ⟨rfl, g1⟩)
    go_ret
    exact ⟨rfl, HH.out.on (gr_of_below g1), GD.of (gr_of_below g1)⟩
  · rw [read_exp_yes hb]
    rw [hb] at HS
    have HH := hide H
    clear hb H
    generalize sgnV x = z at *
    go_enter Tryd.func55, Tryd.ntmps55
    go_wp2_with (go_at_call 61; refine HS.out.mono ?_; rintro e w1 ⟨rfl, g1⟩; have H1 := HH.out.on (gr_of_below g1); obtain ⟨a1, c1, h1, h2⟩ := H1.st; have q1 := dr_exp h1; have q2 := dr_frozen h1 14; obtain ⟨K1, G1⟩ := H1.set (d' := { d with exp := z }) h1 h2 14 (.int .i64 z) rfl rfl (set_exp _ _ _ _ _ _); have HK := hide (And.intro K1 ((GD.of (gr_of_below g1)).trans G1)); clear H1 h1 h2 K1 G1 g1)
    go_ret
    exact ⟨rfl, HK.out⟩
/-- One more key is appended to those of the draft. -/
theorem Dr.push {tmp : Obj} {v' : Value} (H : Dr wB n0 D w d) (h1 : w.heap[D]? = some (.cells (drC d a c none 0) 62 (0, 0))) (h2 : w.ownsRow n0 9 1 (.slice a d.keys.length c) d.keys.length (strL d.keys))
    (hown : w1.ownsRow n0 9 1 v' (d.keys.length + 1) (strL d.keys ++ [.string (mkB x)])) (hg : (w.alloc tmp).grownBy w1 (Value.slice a d.keys.length c).ownBlock) :
    w1.cell? ⟨D, 8, none⟩ = some (.slice a d.keys.length c) ∧ w1.frozen? ⟨D, 8, none⟩ = false ∧ Dr wB n0 D (w1.setCell ⟨D, 8, none⟩ v') { d with keys := d.keys ++ [x] } ∧ GD n0 D w (w1.setCell ⟨D, 8, none⟩ v') := by
  obtain ⟨a', c', rfl⟩ := own_shape hown
  have hlo := H.lo
  have hhi := H.hi
  have hsz := H.sz
  have hsa : (w.alloc tmp).heap.size = w.heap.size + 1 := World.size_alloc _ _
  have hs1 := hg.size
  have hne : some D ≠ (Value.slice a d.keys.length c).ownBlock := fun e => by have := (own_at h2 e.symm).1; omega
  have b1 : w1.heap[D]? = some (.cells (drC d a c none 0) 62 (0, 0)) := (hg.block D (by omega) hne).trans ((Below.heap_alloc _ _ _ (by omega)).trans h1)
  have b2 := heap_setCell_same w1 D 8 _ _ (.slice a' (d.keys.length + 1) c') b1
  have hl : (d.keys ++ [x]).length = d.keys.length + 1 := by simp
  rw [← hl, set_keys] at b2
  have gg : GD n0 D w (w1.setCell ⟨D, 8, none⟩ (.slice a' (d.keys.length + 1) c')) := ⟨hg.1, hg.2, hg.3, by rw [World.size_setCell]; omega, fun k hk hn => by
    rw [heap_setCell_other _ _ _ _ (fun e => hn (.inl e))]
    refine (hg.block k (by omega) fun e => hn (.inr ?_)).trans (Below.heap_alloc _ _ _ hk)
    exact (own_at h2 e.symm).1⟩
  refine ⟨dr_keys b1, dr_frozen b1 8, ⟨Gr.below H.bl gg (fun k hk => by omega), hlo, hhi, by rw [World.size_setCell]; omega, H.val, ⟨a', c', ?_, ?_⟩, fun e => by simp at e⟩, gg⟩
  · rw [← hl]; exact b2
  · show World.ownsRow _ n0 _ 1 (.slice a' (d.keys ++ [x]).length c') (d.keys ++ [x]).length (strL (d.keys ++ [x]))
    rw [hl, strL_app]
    refine own_same hown fun k hk => heap_setCell_other _ _ _ _ fun e => ?_
    have e' : k = D := e
    have := (own_at hown hk).1
    omega
theorem read_key_of {b : Bool} (h : keyN x = b) {g : Bool} (h2 : decide (16 < (d.keys.length : Int) + 1) = g) : readW 0 d x = ({ d with keys := d.keys ++ [x] }, if b = true ∧ g = false then [] else t_bad) := by
  unfold readW
  rw [if_pos rfl, h]
  congr 1
  have : (d.keys.length + 1 ≤ 16) = (g = false) := by
    rw [← h2]
    simp
    omega
  simp only [this]
set_option maxRecDepth 100000 in
set_option maxHeartbeats 2000000 in
theorem tkey_any (H : Dr wB n0 D w d) (hk : d.keys.length ≤ 100000) : Calls Tryd.prog 57 #[.pointer (some ⟨D, 0, none⟩), .string (mkB x)] w fun e w' => ReadEnd wB n0 D w (readW 0 d x) e w' := by
  obtain ⟨a, c, h1, h2⟩ := H.st
  have HK := hide (fun W => key_any (mkB x) W)
  rw [list_mk] at HK
  obtain ⟨i0, hi, hz0, hz1, hz2⟩ := info_parts info_str
  have q1 := dr_keys h1
  have hsz := H.sz
  have HP := hide (fun (tmp : Obj) (w1 : World) (v' : Value) (o : w1.ownsRow n0 9 1 v' (d.keys.length + 1) (strL d.keys ++ [.string (mkB x)])) (g : (w.alloc tmp).grownBy w1 (Value.slice a d.keys.length c).ownBlock) => H.push h1 h2 o g)
  have HO := hide h2
  have HR := hide (fun b (h : keyN x = b) g (h2 : decide (16 < (d.keys.length : Int) + 1) = g) => read_key_of (d := d) h h2)
  clear H h1 h2
  cases hb : keyN x
  · rw [HR.out _ hb _ rfl]
    simp only [Bool.false_eq_true, false_and, if_false]
    rw [hb] at HK
    clear hb HR
    go_enter Tryd.func57, Tryd.ntmps57
    go_wp2_with (first
      | (at_builtin; refine wpList_append_own _ rfl _ _ 27 rfl n0 9 i0 (.string ⟨#[]⟩) 1 16 Tryd.underlying27 hi hz0 hz1 hz2 rfl (by decide) _ _ _ rfl (HO.out.alloc _) ⟨w.heap.size, 0, none⟩ 1 1 [.string (mkB x)] rfl rfl (cell_one_new _ _ _) (by simp [Value.oneCell']) (by unfold maxLen; omega) (by omega) (by simp; omega) ?_; intro v' w1 o1 g1 _; obtain ⟨p1, p2, P3, P4⟩ := HP.out _ _ _ o1 g1; replace P3 := hide P3; replace P4 := hide P4; obtain ⟨a', c', rfl⟩ := own_shape o1; clear o1 g1)
      | (go_at_call 65; refine (HK.out _).mono ?_; rintro e w2 ⟨rfl, rfl⟩))
    go_ret
    exact ⟨rfl, P3.out, P4.out⟩
  · rw [hb] at HK
    by_cases hl : (16 : Int) < (d.keys.length : Int) + 1
    · rw [HR.out _ hb true (by simpa using hl)]
      simp only [Bool.true_eq_false, and_false, if_false]
      clear hb HR
      go_enter Tryd.func57, Tryd.ntmps57
      go_wp2_with (first
        | (at_builtin; refine wpList_append_own _ rfl _ _ 27 rfl n0 9 i0 (.string ⟨#[]⟩) 1 16 Tryd.underlying27 hi hz0 hz1 hz2 rfl (by decide) _ _ _ rfl (HO.out.alloc _) ⟨w.heap.size, 0, none⟩ 1 1 [.string (mkB x)] rfl rfl (cell_one_new _ _ _) (by simp [Value.oneCell']) (by unfold maxLen; omega) (by omega) (by simp; omega) ?_; intro v' w1 o1 g1 _; obtain ⟨p1, p2, P3, P4⟩ := HP.out _ _ _ o1 g1; replace P3 := hide P3; replace P4 := hide P4; obtain ⟨a', c', rfl⟩ := own_shape o1; clear o1 g1)
        | (go_at_call 65; refine (HK.out _).mono ?_; rintro e w2 ⟨rfl, rfl⟩))
      go_ret
      exact ⟨rfl, P3.out, P4.out⟩
    · rw [HR.out _ hb false (by simpa using hl)]
      simp only [and_self, if_true]
      clear hb HR
      go_enter Tryd.func57, Tryd.ntmps57
      go_wp2_with (first
        | (at_builtin; refine wpList_append_own _ rfl _ _ 27 rfl n0 9 i0 (.string ⟨#[]⟩) 1 16 Tryd.underlying27 hi hz0 hz1 hz2 rfl (by decide) _ _ _ rfl (HO.out.alloc _) ⟨w.heap.size, 0, none⟩ 1 1 [.string (mkB x)] rfl rfl (cell_one_new _ _ _) (by simp [Value.oneCell']) (by unfold maxLen; omega) (by omega) (by simp; omega) ?_; intro v' w1 o1 g1 _; obtain ⟨p1, p2, P3, P4⟩ := HP.out _ _ _ o1 g1; replace P3 := hide P3; replace P4 := hide P4; obtain ⟨a', c', rfl⟩ := own_shape o1; clear o1 g1)
        | (go_at_call 65; refine (HK.out _).mono ?_; rintro e w2 ⟨rfl, rfl⟩))
      go_ret
      exact ⟨rfl, P3.out, P4.out⟩
end
end Go.Proofs.YtfcmnkhfmofioaaDoor
