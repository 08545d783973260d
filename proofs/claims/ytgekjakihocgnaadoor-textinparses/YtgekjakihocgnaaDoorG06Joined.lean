/- Which verb a word is, as package textin tells it. Conditions: none. The draft of package textin in memory, and its small functions. Conditions: none. Functions of the draft of package textin: begin, isQuiet, exp, key, and the readings of numbers. Conditions: the listed variables hold what the program's text lays; words of at most 140737488351232 bytes. Functions of the draft of package textin: isQuiet, exp, key, and how numbers are kept. Conditions: the listed variables hold what the program's text lays; words of at most 140737488351232 bytes. -/
import Derived.Test.YtgekjakihocgnaaDoorG25Joined
import Derived.Test.YtgekjakihocgnaaDoorG02Joined
import Derived.Test.YtgekjakihocgnaaDoorG03Joined
import Derived.Test.YtgekjakihocgnaaDoorFrameH
import Derived.Deep.MidRow
import Derived.Test.YtgekjakihocgnaaDoorStrRow
namespace Go.Proofs.YtgekjakihocgnaaDoor
open Go.RowKit

theorem opN_get : opN vb_get = some 0 := by decide
theorem opN_gets : opN vb_gets = some 0 := by decide
theorem opN_gat : opN vb_gat = some 1 := by decide
theorem opN_gats : opN vb_gats = some 1 := by decide
theorem opN_set : opN vb_set = some 3 := by decide
theorem opN_cas : opN vb_cas = some 3 := by decide
theorem opN_add : opN vb_add = some 4 := by decide
theorem opN_replace : opN vb_replace = some 5 := by decide
theorem opN_append : opN vb_append = some 6 := by decide
theorem opN_prepend : opN vb_prepend = some 7 := by decide
theorem opN_delete : opN vb_delete = some 8 := by decide
theorem opN_incr : opN vb_incr = some 10 := by decide
theorem opN_decr : opN vb_decr = some 11 := by decide
theorem opN_touch : opN vb_touch = some 2 := by decide
theorem opN_flush : opN vb_flush = some 13 := by decide
theorem opN_version : opN vb_version = some 15 := by decide
theorem opN_quit : opN vb_quit = some 16 := by decide
/-- No such first word. -/
structure NoVerb (v : List UInt8) : Prop where
  get_ : (v == vb_get) = false
  gets_ : (v == vb_gets) = false
  gat_ : (v == vb_gat) = false
  gats_ : (v == vb_gats) = false
  set_ : (v == vb_set) = false
  cas_ : (v == vb_cas) = false
  add_ : (v == vb_add) = false
  replace_ : (v == vb_replace) = false
  append_ : (v == vb_append) = false
  prepend_ : (v == vb_prepend) = false
  delete_ : (v == vb_delete) = false
  incr_ : (v == vb_incr) = false
  decr_ : (v == vb_decr) = false
  touch_ : (v == vb_touch) = false
  flush_ : (v == vb_flush) = false
  version_ : (v == vb_version) = false
  quit_ : (v == vb_quit) = false
theorem NoVerb.op {v : List UInt8} (h : NoVerb v) : opN v = none := by
  unfold opN
  simp only [show ¬ v = vb_get from by simpa using h.get_, show ¬ v = vb_gets from by simpa using h.gets_, show ¬ v = vb_gat from by simpa using h.gat_, show ¬ v = vb_gats from by simpa using h.gats_, show ¬ v = vb_set from by simpa using h.set_, show ¬ v = vb_cas from by simpa using h.cas_, show ¬ v = vb_add from by simpa using h.add_, show ¬ v = vb_replace from by simpa using h.replace_, show ¬ v = vb_append from by simpa using h.append_, show ¬ v = vb_prepend from by simpa using h.prepend_, show ¬ v = vb_delete from by simpa using h.delete_, show ¬ v = vb_incr from by simpa using h.incr_, show ¬ v = vb_decr from by simpa using h.decr_, show ¬ v = vb_touch from by simpa using h.touch_, show ¬ v = vb_flush from by simpa using h.flush_, show ¬ v = vb_version from by simpa using h.version_, show ¬ v = vb_quit from by simpa using h.quit_, or_self, if_false]
theorem verbs (v : List UInt8) : v = vb_get ∨ v = vb_gets ∨ v = vb_gat ∨ v = vb_gats ∨ v = vb_set ∨ v = vb_cas ∨ v = vb_add ∨ v = vb_replace ∨ v = vb_append ∨ v = vb_prepend ∨ v = vb_delete ∨ v = vb_incr ∨ v = vb_decr ∨ v = vb_touch ∨ v = vb_flush ∨ v = vb_version ∨ v = vb_quit ∨ NoVerb v := by
  by_cases h_get : v = vb_get
  · exact .inl h_get
  by_cases h_gets : v = vb_gets
  · exact .inr (.inl h_gets)
  by_cases h_gat : v = vb_gat
  · exact .inr (.inr (.inl h_gat))
  by_cases h_gats : v = vb_gats
  · exact .inr (.inr (.inr (.inl h_gats)))
  by_cases h_set : v = vb_set
  · exact .inr (.inr (.inr (.inr (.inl h_set))))
  by_cases h_cas : v = vb_cas
  · exact .inr (.inr (.inr (.inr (.inr (.inl h_cas)))))
  by_cases h_add : v = vb_add
  · exact .inr (.inr (.inr (.inr (.inr (.inr (.inl h_add))))))
  by_cases h_replace : v = vb_replace
  · exact .inr (.inr (.inr (.inr (.inr (.inr (.inr (.inl h_replace)))))))
  by_cases h_append : v = vb_append
  · exact .inr (.inr (.inr (.inr (.inr (.inr (.inr (.inr (.inl h_append))))))))
  by_cases h_prepend : v = vb_prepend
  · exact .inr (.inr (.inr (.inr (.inr (.inr (.inr (.inr (.inr (.inl h_prepend)))))))))
  by_cases h_delete : v = vb_delete
  · exact .inr (.inr (.inr (.inr (.inr (.inr (.inr (.inr (.inr (.inr (.inl h_delete))))))))))
  by_cases h_incr : v = vb_incr
  · exact .inr (.inr (.inr (.inr (.inr (.inr (.inr (.inr (.inr (.inr (.inr (.inl h_incr)))))))))))
  by_cases h_decr : v = vb_decr
  · exact .inr (.inr (.inr (.inr (.inr (.inr (.inr (.inr (.inr (.inr (.inr (.inr (.inl h_decr))))))))))))
  by_cases h_touch : v = vb_touch
  · exact .inr (.inr (.inr (.inr (.inr (.inr (.inr (.inr (.inr (.inr (.inr (.inr (.inr (.inl h_touch)))))))))))))
  by_cases h_flush : v = vb_flush
  · exact .inr (.inr (.inr (.inr (.inr (.inr (.inr (.inr (.inr (.inr (.inr (.inr (.inr (.inr (.inl h_flush))))))))))))))
  by_cases h_version : v = vb_version
  · exact .inr (.inr (.inr (.inr (.inr (.inr (.inr (.inr (.inr (.inr (.inr (.inr (.inr (.inr (.inr (.inl h_version)))))))))))))))
  by_cases h_quit : v = vb_quit
  · exact .inr (.inr (.inr (.inr (.inr (.inr (.inr (.inr (.inr (.inr (.inr (.inr (.inr (.inr (.inr (.inr (.inl h_quit))))))))))))))))
  exact .inr (.inr (.inr (.inr (.inr (.inr (.inr (.inr (.inr (.inr (.inr (.inr (.inr (.inr (.inr (.inr (.inr ⟨by simpa using h_get, by simpa using h_gets, by simpa using h_gat, by simpa using h_gats, by simpa using h_set, by simpa using h_cas, by simpa using h_add, by simpa using h_replace, by simpa using h_append, by simpa using h_prepend, by simpa using h_delete, by simpa using h_incr, by simpa using h_decr, by simpa using h_touch, by simpa using h_flush, by simpa using h_version, by simpa using h_quit⟩))))))))))))))))
set_option maxRecDepth 100000 in
set_option maxHeartbeats 4000000 in
theorem opOf_any (v : List UInt8) (w : World) : Calls Tryd.prog 46 #[.string (mkB v)] w fun e w' => e = .returned (.tuple #[.int .i64 ((opN v).getD 0), .bool (opN v).isSome]) ∧ w = w' := by
  rcases verbs v with rfl | rfl | rfl | rfl | rfl | rfl | rfl | rfl | rfl | rfl | rfl | rfl | rfl | rfl | rfl | rfl | rfl | h
  · rw [opN_get]
    simp only [mkB, vb_get, Option.getD, Option.isSome]
    go_enter Tryd.func46, Tryd.ntmps46
    go_wp2
    go_ret2
    exact ⟨rfl, rfl⟩
  · rw [opN_gets]
    simp only [mkB, vb_gets, Option.getD, Option.isSome]
    go_enter Tryd.func46, Tryd.ntmps46
    go_wp2
    go_ret2
    exact ⟨rfl, rfl⟩
  · rw [opN_gat]
    simp only [mkB, vb_gat, Option.getD, Option.isSome]
    go_enter Tryd.func46, Tryd.ntmps46
    go_wp2
    go_ret2
    exact ⟨rfl, rfl⟩
  · rw [opN_gats]
    simp only [mkB, vb_gats, Option.getD, Option.isSome]
    go_enter Tryd.func46, Tryd.ntmps46
    go_wp2
    go_ret2
    exact ⟨rfl, rfl⟩
  · rw [opN_set]
    simp only [mkB, vb_set, Option.getD, Option.isSome]
    go_enter Tryd.func46, Tryd.ntmps46
    go_wp2
    go_ret2
    exact ⟨rfl, rfl⟩
  · rw [opN_cas]
    simp only [mkB, vb_cas, Option.getD, Option.isSome]
    go_enter Tryd.func46, Tryd.ntmps46
    go_wp2
    go_ret2
    exact ⟨rfl, rfl⟩
  · rw [opN_add]
    simp only [mkB, vb_add, Option.getD, Option.isSome]
    go_enter Tryd.func46, Tryd.ntmps46
    go_wp2
    go_ret2
    exact ⟨rfl, rfl⟩
  · rw [opN_replace]
    simp only [mkB, vb_replace, Option.getD, Option.isSome]
    go_enter Tryd.func46, Tryd.ntmps46
    go_wp2
    go_ret2
    exact ⟨rfl, rfl⟩
  · rw [opN_append]
    simp only [mkB, vb_append, Option.getD, Option.isSome]
    go_enter Tryd.func46, Tryd.ntmps46
    go_wp2
    go_ret2
    exact ⟨rfl, rfl⟩
  · rw [opN_prepend]
    simp only [mkB, vb_prepend, Option.getD, Option.isSome]
    go_enter Tryd.func46, Tryd.ntmps46
    go_wp2
    go_ret2
    exact ⟨rfl, rfl⟩
  · rw [opN_delete]
    simp only [mkB, vb_delete, Option.getD, Option.isSome]
    go_enter Tryd.func46, Tryd.ntmps46
    go_wp2
    go_ret2
    exact ⟨rfl, rfl⟩
  · rw [opN_incr]
    simp only [mkB, vb_incr, Option.getD, Option.isSome]
    go_enter Tryd.func46, Tryd.ntmps46
    go_wp2
    go_ret2
    exact ⟨rfl, rfl⟩
  · rw [opN_decr]
    simp only [mkB, vb_decr, Option.getD, Option.isSome]
    go_enter Tryd.func46, Tryd.ntmps46
    go_wp2
    go_ret2
    exact ⟨rfl, rfl⟩
  · rw [opN_touch]
    simp only [mkB, vb_touch, Option.getD, Option.isSome]
    go_enter Tryd.func46, Tryd.ntmps46
    go_wp2
    go_ret2
    exact ⟨rfl, rfl⟩
  · rw [opN_flush]
    simp only [mkB, vb_flush, Option.getD, Option.isSome]
    go_enter Tryd.func46, Tryd.ntmps46
    go_wp2
    go_ret2
    exact ⟨rfl, rfl⟩
  · rw [opN_version]
    simp only [mkB, vb_version, Option.getD, Option.isSome]
    go_enter Tryd.func46, Tryd.ntmps46
    go_wp2
    go_ret2
    exact ⟨rfl, rfl⟩
  · rw [opN_quit]
    simp only [mkB, vb_quit, Option.getD, Option.isSome]
    go_enter Tryd.func46, Tryd.ntmps46
    go_wp2
    go_ret2
    exact ⟨rfl, rfl⟩
  · rw [h.op]
    have h_get := h.get_
    have h_gets := h.gets_
    have h_gat := h.gat_
    have h_gats := h.gats_
    have h_set := h.set_
    have h_cas := h.cas_
    have h_add := h.add_
    have h_replace := h.replace_
    have h_append := h.append_
    have h_prepend := h.prepend_
    have h_delete := h.delete_
    have h_incr := h.incr_
    have h_decr := h.decr_
    have h_touch := h.touch_
    have h_flush := h.flush_
    have h_version := h.version_
    have h_quit := h.quit_
    simp only [vb_get, vb_gets, vb_gat, vb_gats, vb_set, vb_cas, vb_add, vb_replace, vb_append, vb_prepend, vb_delete, vb_incr, vb_decr, vb_touch, vb_flush, vb_version, vb_quit] at h_get h_gets h_gat h_gats h_set h_cas h_add h_replace h_append h_prepend h_delete h_incr h_decr h_touch h_flush h_version h_quit
    simp only [mkB, Option.getD, Option.isSome]
    clear h
    go_enter Tryd.func46, Tryd.ntmps46
    go_wp2
    go_ret2
    exact ⟨rfl, rfl⟩
end Go.Proofs.YtgekjakihocgnaaDoor

namespace Go.Proofs.YtgekjakihocgnaaDoor
set_option linter.unusedVariables false
open Go.RowKit

/-- Texts as cells. -/
def strL (ks : List (List UInt8)) : List Value := ks.map fun k => Value.string (mkB k)
theorem strL_len (ks : List (List UInt8)) : (strL ks).length = ks.length := List.length_map _
theorem strL_app (ks : List (List UInt8)) (x : List UInt8) : strL (ks ++ [x]) = strL ks ++ [.string (mkB x)] := by simp [strL]
/-- The draft's form, and its command, as cells. -/
def fmD (d : Dv) (a : Option Addr) (c : Nat) : Array Value := #[.int .i64 d.dia, .string (mkB d.verb), .int .i64 0, .int .u32 0, .bool d.quiet, .bool d.wcas, .string ⟨#[]⟩, .slice none 0 0, .slice a d.keys.length c, .bool false]
def cmD (d : Dv) (va : Option Addr) (vc : Nat) : Array Value := #[.int .i64 d.op, .string ⟨#[]⟩, .slice va d.val.length vc, .int .u32 d.fl, .int .i64 d.exp, .int .u64 d.cas, .int .u64 d.del, .int .u64 0, .bool false, .bool false]
def drC (d : Dv) (a : Option Addr) (c : Nat) (va : Option Addr) (vc : Nat) : Array Value :=
  #[.int .i64 d.dia, .string (mkB d.verb), .int .i64 0, .int .u32 0, .bool d.quiet, .bool d.wcas, .string ⟨#[]⟩, .slice none 0 0, .slice a d.keys.length c, .bool false,
    .int .i64 d.op, .string ⟨#[]⟩, .slice va d.val.length vc, .int .u32 d.fl, .int .i64 d.exp, .int .u64 d.cas, .int .u64 d.del, .int .u64 0, .bool false, .bool false, .int .u64 d.size, .bool d.sized]
section
variable {w : World} {D : Nat} {d : Dv} {a va : Option Addr} {c vc : Nat} {t : TypeId}
theorem dr_at (h : w.heap[D]? = some (.cells (drC d a c va vc) t (0, 0))) (j : Nat) (v : Value) (hv : (drC d a c va vc)[j]? = some v) : w.cell? ⟨D, j, none⟩ = some v := by
  unfold World.cell?
  rw [h]
  exact hv
theorem dr_verb (h : w.heap[D]? = some (.cells (drC d a c va vc) t (0, 0))) : w.cell? ⟨D, 1, none⟩ = some (.string (mkB d.verb)) := dr_at h 1 _ rfl
theorem dr_quiet (h : w.heap[D]? = some (.cells (drC d a c va vc) t (0, 0))) : w.cell? ⟨D, 4, none⟩ = some (.bool d.quiet) := dr_at h 4 _ rfl
theorem dr_keys (h : w.heap[D]? = some (.cells (drC d a c va vc) t (0, 0))) : w.cell? ⟨D, 8, none⟩ = some (.slice a d.keys.length c) := dr_at h 8 _ rfl
theorem dr_op (h : w.heap[D]? = some (.cells (drC d a c va vc) t (0, 0))) : w.cell? ⟨D, 10, none⟩ = some (.int .i64 d.op) := dr_at h 10 _ rfl
theorem dr_val (h : w.heap[D]? = some (.cells (drC d a c va vc) t (0, 0))) : w.cell? ⟨D, 12, none⟩ = some (.slice va d.val.length vc) := dr_at h 12 _ rfl
theorem dr_fl (h : w.heap[D]? = some (.cells (drC d a c va vc) t (0, 0))) : w.cell? ⟨D, 13, none⟩ = some (.int .u32 d.fl) := dr_at h 13 _ rfl
theorem dr_exp (h : w.heap[D]? = some (.cells (drC d a c va vc) t (0, 0))) : w.cell? ⟨D, 14, none⟩ = some (.int .i64 d.exp) := dr_at h 14 _ rfl
theorem dr_cas (h : w.heap[D]? = some (.cells (drC d a c va vc) t (0, 0))) : w.cell? ⟨D, 15, none⟩ = some (.int .u64 d.cas) := dr_at h 15 _ rfl
theorem dr_del (h : w.heap[D]? = some (.cells (drC d a c va vc) t (0, 0))) : w.cell? ⟨D, 16, none⟩ = some (.int .u64 d.del) := dr_at h 16 _ rfl
theorem dr_size (h : w.heap[D]? = some (.cells (drC d a c va vc) t (0, 0))) : w.cell? ⟨D, 20, none⟩ = some (.int .u64 d.size) := dr_at h 20 _ rfl
theorem dr_sized (h : w.heap[D]? = some (.cells (drC d a c va vc) t (0, 0))) : w.cell? ⟨D, 21, none⟩ = some (.bool d.sized) := dr_at h 21 _ rfl
theorem dr_form (h : w.heap[D]? = some (.cells (drC d a c va vc) t (0, 0))) : w.rangeAt D 0 (fmD d a c).toList := fun j v hv => by
  have hj : j < 10 := (List.getElem?_eq_some_iff.1 hv).1
  refine dr_at h _ v ?_
  match j, hj with
  | 0, _ | 1, _ | 2, _ | 3, _ | 4, _ | 5, _ | 6, _ | 7, _ | 8, _ | 9, _ => exact hv
theorem dr_cmd (h : w.heap[D]? = some (.cells (drC d a c va vc) t (0, 0))) : w.rangeAt D 10 (cmD d va vc).toList := fun j v hv => by
  have hj : j < 10 := (List.getElem?_eq_some_iff.1 hv).1
  refine dr_at h _ v ?_
  match j, hj with
  | 0, _ | 1, _ | 2, _ | 3, _ | 4, _ | 5, _ | 6, _ | 7, _ | 8, _ | 9, _ => exact hv
theorem dr_thereF (h : w.heap[D]? = some (.cells (drC d a c va vc) t (0, 0))) : w.there D 0 10 := fun j hj => by
  refine ⟨?_, frozen_of_row _ _ _ _ _ h⟩
  unfold World.cell?
  rw [h]
  match j, hj with
  | 0, _ | 1, _ | 2, _ | 3, _ | 4, _ | 5, _ | 6, _ | 7, _ | 8, _ | 9, _ => rfl
theorem dr_frozen (h : w.heap[D]? = some (.cells (drC d a c va vc) t (0, 0))) (j : Nat) : w.frozen? ⟨D, j, none⟩ = false := frozen_of_row _ _ _ _ _ h
end
theorem fm_size (d : Dv) (a : Option Addr) (c : Nat) : (Tryd.prog.info? 29).map (·.size) = some (fmD d a c).size := by
  have h : (Tryd.prog.info? 29).map (·.size) = some 10 := by kernel_rfl
  exact h
theorem cm_size (d : Dv) (va : Option Addr) (vc : Nat) : (Tryd.prog.info? 39).map (·.size) = some (cmD d va vc).size := by
  have h : (Tryd.prog.info? 39).map (·.size) = some 10 := by kernel_rfl
  exact h
theorem fm_one (d : Dv) (a : Option Addr) (c : Nat) : (fmD d a c).all (·.oneCell') = true := by simp [fmD, Value.oneCell']
theorem cm_one (d : Dv) (va : Option Addr) (vc : Nat) : (cmD d va vc).all (·.oneCell') = true := by simp [cmD, Value.oneCell']

section
variable (d : Dv) (a va : Option Addr) (c vc : Nat)
theorem set_quiet (x : Bool) : (drC d a c va vc).setIfInBounds 4 (.bool x) = drC { d with quiet := x } a c va vc := by simp [drC]
theorem set_op (x : Int) : (drC d a c va vc).setIfInBounds 10 (.int .i64 x) = drC { d with op := x } a c va vc := by simp [drC]
theorem set_fl (x : Int) : (drC d a c va vc).setIfInBounds 13 (.int .u32 x) = drC { d with fl := x } a c va vc := by simp [drC]
theorem set_exp (x : Int) : (drC d a c va vc).setIfInBounds 14 (.int .i64 x) = drC { d with exp := x } a c va vc := by simp [drC]
theorem set_cas (x : Int) : (drC d a c va vc).setIfInBounds 15 (.int .u64 x) = drC { d with cas := x } a c va vc := by simp [drC]
theorem set_del (x : Int) : (drC d a c va vc).setIfInBounds 16 (.int .u64 x) = drC { d with del := x } a c va vc := by simp [drC]
theorem set_size (x : Int) : (drC d a c va vc).setIfInBounds 20 (.int .u64 x) = drC { d with size := x } a c va vc := by simp [drC]
theorem set_sized (x : Bool) : (drC d a c va vc).setIfInBounds 21 (.bool x) = drC { d with sized := x } a c va vc := by simp [drC]
theorem set_keys (a' : Option Addr) (c' : Nat) (ks : List (List UInt8)) : (drC d a c va vc).setIfInBounds 8 (.slice a' ks.length c') = drC { d with keys := ks } a' c' va vc := by simp [drC]
theorem set_val (a' : Option Addr) (c' : Nat) (v : List UInt8) : (drC d a c va vc).setIfInBounds 12 (.slice a' v.length c') = drC { d with val := v } a c a' c' := by simp [drC]
theorem set_form (d' : Dv) (a' : Option Addr) (c' : Nat) : setL (drC d a c va vc) 0 (fmD d' a' c').toList = drC { d with dia := d'.dia, verb := d'.verb, quiet := d'.quiet, wcas := d'.wcas, keys := d'.keys } a' c' va vc := by simp [setL, drC, fmD]
end
/-- What a function of the draft may write: the draft itself, and what lies from n0 on. -/
abbrev GD (n0 D : Nat) (w w' : World) : Prop := Gr (fun k => k = D ∨ n0 ≤ k) w w'
/-- The draft: its block, and the row of its keys, which is from n0 on. -/
structure Dr (wB : World) (n0 D : Nat) (w : World) (d : Dv) : Prop where
  bl : Below wB.heap.size wB w
  lo : wB.heap.size ≤ D
  hi : D < n0
  sz : n0 ≤ w.heap.size
  val : d.val = []
  st : ∃ a c, w.heap[D]? = some (.cells (drC d a c none 0) 45 (0, 0)) ∧ w.ownsRow n0 9 1 (.slice a d.keys.length c) d.keys.length (strL d.keys)
  nil_ : d.keys = [] → w.heap[D]? = some (.cells (drC d none 0 none 0) 45 (0, 0))
theorem drC_ac {d : Dv} {a a' : Option Addr} {c c' : Nat} (h : drC d a c none 0 = drC d a' c' none 0) : a = a' ∧ c = c' := by
  have h1 := congrArg (fun x : Array Value => x[8]?) h
  have h2 : some (Value.slice a d.keys.length c) = some (Value.slice a' d.keys.length c') := h1
  have h3 := Value.slice.inj (Option.some.inj h2)
  exact ⟨h3.1, h3.2.2⟩
section
variable {wB w w' : World} {n0 D : Nat} {d d' : Dv} {a : Option Addr} {c : Nat}
/-- What leaves old blocks as they are. -/
theorem Dr.on (H : Dr wB n0 D w d) (hg : w.grownBy w' none) : Dr wB n0 D w' d := by
  obtain ⟨a, c, h1, h2⟩ := H.st
  have hD : D < w.heap.size := Nat.lt_of_lt_of_le H.hi H.sz
  exact ⟨gr_below H.bl hg (fun _ e => by cases e), H.lo, H.hi, Nat.le_trans H.sz hg.size, H.val, ⟨a, c, (hg.block D hD (by simp)).trans h1, own_same h2 fun k hk => hg.block k (own_at h2 hk).2.1 (by simp)⟩, fun hn => (hg.block D hD (by simp)).trans (H.nil_ hn)⟩
theorem GD.of (hg : w.grownBy w' none) : GD n0 D w w' := ⟨hg.1, hg.2, hg.3, hg.4, fun k hk _ => hg.5 k hk (by simp)⟩
theorem GD.refl (w : World) : GD n0 D w w := Gr.refl _ w
/-- One cell of the draft is set. -/
theorem Dr.set (H : Dr wB n0 D w d) (h1 : w.heap[D]? = some (.cells (drC d a c none 0) 45 (0, 0))) (h2 : w.ownsRow n0 9 1 (.slice a d.keys.length c) d.keys.length (strL d.keys)) (j : Nat) (v : Value)
    (hk : d'.keys = d.keys) (hv : d'.val = d.val) (he : (drC d a c none 0).setIfInBounds j v = drC d' a c none 0) : Dr wB n0 D (w.setCell ⟨D, j, none⟩ v) d' ∧ GD n0 D w (w.setCell ⟨D, j, none⟩ v) := by
  have hg : Gr (fun k => k = D) w (w.setCell ⟨D, j, none⟩ v) := ⟨rfl, rfl, rfl, by rw [World.size_setCell]; exact Nat.le_refl _, fun j _ hn => heap_setCell_other _ _ _ _ hn⟩
  refine ⟨⟨Gr.below H.bl hg (fun k e => by subst e; exact H.lo), H.lo, H.hi, Nat.le_trans H.sz hg.size, hv.trans H.val, ⟨a, c, ?_, ?_⟩, fun hn => ?_⟩, ⟨hg.os, hg.tape, hg.output, hg.size, fun k hk hn => hg.block k hk fun e => hn (.inl e)⟩⟩
  · have := heap_setCell_same w D j _ _ v h1
    rw [he] at this
    exact this
  · rw [hk]
    refine own_same h2 fun k hk => hg.block k (own_at h2 hk).2.1 fun e => ?_
    have := (own_at h2 hk).1
    have := H.hi
    omega
  · have h3 := (H.nil_ (hk ▸ hn)).symm.trans h1
    obtain ⟨rfl, rfl⟩ := drC_ac (Obj.cells.inj (Option.some.inj h3)).1
    have := heap_setCell_same w D j _ _ v h1
    rw [he] at this
    exact this
/-- The draft's form is set, with no keys. -/
theorem Dr.setF (H : Dr wB n0 D w d) (h1 : w.heap[D]? = some (.cells (drC d a c none 0) 45 (0, 0))) (vs : List Value)
    (hk : d'.keys = []) (hv : d'.val = d.val) (he : setL (drC d a c none 0) 0 vs = drC d' none 0 none 0) : Dr wB n0 D (w.setCells D 0 vs) d' ∧ GD n0 D w (w.setCells D 0 vs) := by
  have hg := setL_grow (k := D) vs 0 w
  refine ⟨⟨Gr.below H.bl hg (fun k e => by subst e; exact H.lo), H.lo, H.hi, Nat.le_trans H.sz hg.size, hv.trans H.val, ⟨none, 0, ?_, ?_⟩, fun _ => ?_⟩, ⟨hg.os, hg.tape, hg.output, hg.size, fun k hk hn => hg.block k hk fun e => hn (.inl e)⟩⟩
  · have := setL_heap vs 0 w _ h1
    rw [he] at this
    exact this
  · rw [hk]
    exact World.ownsRow_nil _ _ _ _
  · have := setL_heap vs 0 w _ h1
    rw [he] at this
    exact this
/-- A draft without keys: its keys may be laid from any later block on. -/
theorem Dr.lift {n1 : Nat} (H : Dr wB n0 D w d) (hk : d.keys = []) (h1 : D < n1) (h2 : n1 ≤ w.heap.size) : Dr wB n1 D w d :=
  ⟨H.bl, H.lo, h1, h2, H.val, ⟨none, 0, H.nil_ hk, by rw [hk]; exact World.ownsRow_nil _ _ _ _⟩, H.nil_⟩
theorem GD.trans {w1 : World} (h : GD n0 D w w1) (k : GD n0 D w1 w') : GD n0 D w w' := Gr.trans h k
theorem Dr.laid (H : Dr wB n0 D w d) (hL : Laid wB) : Laid w := hL.on H.bl
end
set_option maxRecDepth 100000 in
set_option maxHeartbeats 1000000 in
theorem skip_any {wB w : World} {n0 D : Nat} {d : Dv} (H : Dr wB n0 D w d) (hs : 0 ≤ d.size) : Calls Tryd.prog 13 #[.pointer (some ⟨D, 0, none⟩)] w fun e w' => e = .returned (.int .i64 (skipN d)) ∧ w = w' := by
  obtain ⟨a, c, h1, h2⟩ := H.st
  have c1 := dr_sized h1
  have c2 := dr_size h1
  clear h1 h2 H
  unfold skipN
  cases hz : d.sized
  · rw [hz] at c1
    rw [if_neg (by simp)]
    clear hs hz
    go_enter Tryd.func13, Tryd.ntmps13
    go_wp2
    go_ret
    exact ⟨rfl, rfl⟩
  · rw [hz] at c1
    obtain ⟨s, hs1⟩ : ∃ s, s = d.size := ⟨_, rfl⟩
    rw [← hs1] at c2 hs ⊢
    by_cases hb : s ≤ 1073741824
    · rw [if_pos ⟨rfl, hb⟩]
      have hbi : ¬ (1073741824 : Int) < s := by omega
      have e1 : wrap64 s = s := by unfold wrap64; omega
      have e2 : wrap64 (s + 2) = s + 2 := by unfold wrap64; omega
      clear hs1 hz
      go_enter Tryd.func13, Tryd.ntmps13
      go_wp2
      go_ret
      exact ⟨rfl, rfl⟩
    · rw [if_neg (by rintro ⟨_, h⟩; exact hb h)]
      have hbi : (1073741824 : Int) < s := by omega
      clear hs1 hs hz
      go_enter Tryd.func13, Tryd.ntmps13
      go_wp2
      go_ret
      exact ⟨rfl, rfl⟩
end Go.Proofs.YtgekjakihocgnaaDoor

namespace Go.Proofs.YtgekjakihocgnaaDoor
set_option linter.unusedVariables false
open Go.RowKit

theorem wcas_cases (v : List UInt8) : (v = vb_gets ∧ (begun v).wcas = true) ∨ ((v == vb_gets) = false ∧ v = vb_gats ∧ (begun v).wcas = true) ∨ ((v == vb_gets) = false ∧ (v == vb_gats) = false ∧ (begun v).wcas = false) := by
  by_cases h1 : v = vb_gets
  · exact .inl ⟨h1, by simp [begun, h1]⟩
  · by_cases h2 : v = vb_gats
    · exact .inr (.inl ⟨by simpa using h1, h2, by simp [begun, h2]⟩)
    · exact .inr (.inr ⟨by simpa using h1, by simpa using h2, by simp [begun, h1, h2]⟩)
section
variable {wB w : World} {n0 D : Nat} {d : Dv}
set_option maxRecDepth 100000 in
set_option maxHeartbeats 2000000 in
theorem begin_any (H : Dr wB n0 D w zeroD) (v : List UInt8) : Calls Tryd.prog 29 #[.pointer (some ⟨D, 0, none⟩), .string (mkB v)] w fun e w' => e = .returned (.bool (opN v).isSome) ∧ Dr wB n0 D w' (begun v) ∧ GD n0 D w w' := by
  obtain ⟨a, c, h1, h2⟩ := H.st
  have HO := hide (fun W => opOf_any v W)
  obtain ⟨op, hop⟩ : ∃ op, op = (opN v).getD 0 := ⟨_, rfl⟩
  rw [← hop] at HO
  obtain ⟨is, his⟩ : ∃ is, is = (opN v).isSome := ⟨_, rfl⟩
  rw [← his] at HO ⊢
  obtain ⟨K1, G1⟩ := H.set (d' := { zeroD with op := op }) h1 h2 10 (.int .i64 op) rfl rfl (set_op _ _ _ _ _ _)
  obtain ⟨a1, c1, q1, q2⟩ := K1.st
  obtain ⟨K2, G2⟩ := K1.setF (d' := begun v) q1 (fmD (begun v) none 0).toList rfl rfl (by rw [set_form, hop]; rfl)
  have cop := dr_op h1
  have fop := dr_frozen h1 10
  have ht := dr_thereF q1
  have HK := hide (And.intro K2 (G1.trans G2))
  clear K1 K2 G1 G2 H h1 h2 q1 q2 hop his
  rcases wcas_cases v with ⟨rfl, -⟩ | ⟨e1, rfl, -⟩ | ⟨e1, e2, hw⟩
  · simp only [mkB, vb_gets] at *
    go_enter Tryd.func29, Tryd.ntmps29
    go_wp2_with (first
      | (go_at_call 46; refine (HO.out _).mono ?_; rintro e w1 ⟨rfl, rfl⟩)
      | (refine wpList_store_mid rfl 29 _ _ rfl D 0 (fmD (begun vb_gets) none 0) rfl rfl ht (fm_size _ _ _) (fm_one _ _ _) ?_))
    go_ret
    exact ⟨rfl, HK.out⟩
  · simp only [mkB, vb_gats, vb_gets] at *
    go_enter Tryd.func29, Tryd.ntmps29
    go_wp2_with (first
      | (go_at_call 46; refine (HO.out _).mono ?_; rintro e w1 ⟨rfl, rfl⟩)
      | (refine wpList_store_mid rfl 29 _ _ rfl D 0 (fmD (begun vb_gats) none 0) rfl rfl ht (fm_size _ _ _) (fm_one _ _ _) ?_))
    go_ret
    exact ⟨rfl, HK.out⟩
  · have hf : Hid (fmD (begun v) none 0 = #[.int .i64 1, .string ⟨v.toArray⟩, .int .i64 0, .int .u32 0, .bool false, .bool false, .string ⟨#[]⟩, .slice none 0 0, .slice none 0 0, .bool false]) := by show _ = _; unfold fmD; rw [hw]; rfl
    clear hw
    simp only [mkB, vb_gats, vb_gets] at *
    go_enter Tryd.func29, Tryd.ntmps29
    go_wp2_with (first
      | (go_at_call 46; refine (HO.out _).mono ?_; rintro e w1 ⟨rfl, rfl⟩)
      | (refine wpList_store_mid rfl 29 _ _ rfl D 0 (fmD (begun v) none 0) rfl (by rw [hf.out]; rfl) ht (fm_size _ _ _) (fm_one _ _ _) ?_))
    go_ret
    exact ⟨rfl, HK.out⟩
end
end Go.Proofs.YtgekjakihocgnaaDoor

namespace Go.Proofs.YtgekjakihocgnaaDoor
set_option linter.unusedVariables false
open Go.RowKit

/-- A row of words, in a block of which Q tells. -/
structure Wu (Q : Nat → Prop) (w : World) (a : Option Addr) (len cap : Nat) (ws : List (List UInt8)) : Prop where
  n : ws.length = len
  c : len ≤ cap
  m : cap ≤ maxLen
  nil_ : a = none → cap = 0
  at_ : len = 0 ∨ ∃ b off, a = some ⟨b, off, none⟩ ∧ Q b ∧ b < w.heap.size ∧ ∀ i, ∀ h : i < ws.length, w.cell? ⟨b, off + i, none⟩ = some (.string (mkB ws[i]))
section
variable {Q : Nat → Prop} {wB w w' w1 : World} {n0 D : Nat} {d : Dv} {a va : Option Addr} {len cap vc : Nat} {ws : List (List UInt8)} {t : TypeId}
theorem Wu.on (h : Wu Q w a len cap ws) (hq : ∀ b, Q b → b < w.heap.size → w'.heap[b]? = w.heap[b]?) : Wu Q w' a len cap ws := by
  refine ⟨h.n, h.c, h.m, h.nil_, ?_⟩
  rcases h.at_ with h0 | ⟨b, off, e, hb, hl, hc⟩
  · exact .inl h0
  · have hs := hq b hb hl
    refine .inr ⟨b, off, e, hb, ?_, fun i hi => (World.cell?_of_block hs).trans (hc i hi)⟩
    rcases Nat.lt_or_ge b w'.heap.size with h' | h'
    · exact h'
    · rw [Array.getElem?_eq_none h'] at hs
      rw [Array.getElem?_eq_getElem hl] at hs
      cases hs
theorem Wu.get (h : Wu Q w a len cap ws) {i : Nat} (hi : i < len) : ∃ b off, a = some ⟨b, off, none⟩ ∧ w.cell? ⟨b, off + i, none⟩ = some (.string (mkB (ws[i]'(by rw [h.n]; exact hi)))) := by
  rcases h.at_ with h0 | ⟨b, off, e, hb, hl, hc⟩
  · omega
  · exact ⟨b, off, e, hc i _⟩
/-- 'ws[:j]' -/
theorem Wu.front (h : Wu Q w a len cap ws) {j : Nat} (hj : j ≤ len) : Wu Q w a j cap (ws.take j) := by
  have hc := h.c
  refine ⟨by rw [List.length_take, h.n]; omega, by omega, h.m, h.nil_, ?_⟩
  rcases h.at_ with h0 | ⟨b, off, e, hb, hl, hx⟩
  · exact .inl (by omega)
  · refine .inr ⟨b, off, e, hb, hl, fun i hi => ?_⟩
    rw [List.length_take] at hi
    rw [hx i (by omega), List.getElem_take]
/-- 'ws[1:]' -/
theorem Wu.tail (h : Wu Q w a len cap ws) (h1 : 1 ≤ len) : ∃ a', (∀ W : World, (Instr.sliceAt 27 (.slice a len cap) (some (.int .i64 1)) none none).run Tryd.prog W = .ok (.slice a' (len - 1) (cap - 1)) W) ∧ Wu Q w a' (len - 1) (cap - 1) ws.tail := by
  have hc := h.c
  have hm := h.m
  rcases h.at_ with h0 | ⟨b, off, e, hb, hl, hx⟩
  · omega
  · subst e
    have h2 : (1 : Int) ≤ (len : Int) := by omega
    by_cases e : cap = 1
    · refine ⟨some ⟨b, off, none⟩, fun W => ?_, by rw [List.length_tail, h.n], by omega, by omega, fun e => by (cases e), .inl (by omega)⟩
      subst e
      go_simp
    · refine ⟨some (Addr.add ⟨b, off, none⟩ 1), fun W => ?_, by rw [List.length_tail, h.n], by omega, by omega, fun e => by (cases e), ?_⟩
      · go_simp
      · refine .inr ⟨b, off + 1, by rw [add_at], hb, hl, fun i hi => ?_⟩
        rw [List.length_tail] at hi
        rw [Nat.add_assoc, Nat.add_comm 1 i, hx (i + 1) (by omega)]
        simp
theorem quiet_no {op : Int} (h : op = 0 ∨ op = 1 ∨ op = 15 ∨ op = 16) (ws : List (List UInt8)) (many : Nat) : quietN op ws many = false := by
  unfold quietN mayQ
  simp [h]
theorem quiet_may {op : Int} (h : ¬ (op = 0 ∨ op = 1 ∨ op = 15 ∨ op = 16)) (ws : List (List UInt8)) (many : Nat) : quietN op ws many = (decide (ws.length = many + 1) && decide (ws[many]? = some t_noreply)) := by
  unfold quietN mayQ
  simp [h]
set_option maxRecDepth 100000 in
set_option maxHeartbeats 2000000 in
theorem isQuiet_any {c : Nat} {ka : Option Addr} (hD : w.heap[D]? = some (.cells (drC d ka c va vc) t (0, 0))) (hW : Wu Q w a len cap ws) (many : Nat) (hm : many ≤ 1000000) : Calls Tryd.prog 31 #[.pointer (some ⟨D, 0, none⟩), .slice a len cap, .int .i64 (many : Int)] w fun e w' => e = .returned (.bool (quietN d.op ws many)) ∧ w = w' := by
  have c1 := dr_op hD
  clear hD
  by_cases hop : d.op = 0 ∨ d.op = 1 ∨ d.op = 15 ∨ d.op = 16
  · rw [quiet_no hop]
    rcases hop with h | h | h | h
    all_goals
      rw [h] at c1
      clear h
      go_enter Tryd.func31, Tryd.ntmps31
      go_wp2
      go_ret
      exact ⟨rfl, rfl⟩
  · rw [quiet_may hop]
    obtain ⟨op, ho⟩ : ∃ op, d.op = op := ⟨_, rfl⟩
    rw [ho] at c1 hop
    have o0 : ¬ op = 0 := fun h => hop (.inl h)
    have o1 : ¬ op = 1 := fun h => hop (.inr (.inl h))
    have o2 : ¬ op = 15 := fun h => hop (.inr (.inr (.inl h)))
    have o3 : ¬ op = 16 := fun h => hop (.inr (.inr (.inr h)))
    clear hop ho
    have e1 : wrap64 ((many : Int) + 1) = (many : Int) + 1 := by unfold wrap64; omega
    by_cases hn : len = many + 1
    · obtain ⟨b, off, rfl, hc⟩ := hW.get (i := many) (by omega)
      have hlen := hW.n
      have hlt : many < ws.length := by omega
      rw [hlen, List.getElem?_eq_getElem hlt]
      generalize ws[many] = x at *
      have hli : (len : Int) = (many : Int) + 1 := by omega
      simp only [mkB] at hc
      have e2 : (decide (len = many + 1) && decide (some x = some t_noreply)) = (x == [110, 111, 114, 101, 112, 108, 121]) := by
        rw [decide_eq_true hn, Bool.true_and]
        simp only [Option.some.injEq, t_noreply]
        by_cases hx : x = [110, 111, 114, 101, 112, 108, 121]
        · simp [hx]
        · rw [decide_eq_false hx]; symm; simpa using hx
      rw [e2]
      subst hn
      clear e2 hlen hlt hW hli hm
      go_enter Tryd.func31, Tryd.ntmps31
      go_wp2
      go_ret
      exact ⟨rfl, rfl⟩
    · rw [hW.n, decide_eq_false hn, Bool.false_and]
      have hni : ¬ (len : Int) = (many : Int) + 1 := by omega
      clear hn hm hW
      go_enter Tryd.func31, Tryd.ntmps31
      go_wp2
      go_ret
      exact ⟨rfl, rfl⟩
end
end Go.Proofs.YtgekjakihocgnaaDoor
