/- The contracts of package slab: New and Free. Conditions: none. -/
import Derived.Test.YtdjagifmcimedaaSlabInst
namespace Go.Proofs.Ytdjagifmcimedaa
open Go.RowKit Go.Maps

theorem info_int : (Try.prog.info? 3).map (fun i => (i.zero, i.size, i.bytes)) = some (some (.int .i64 0), 1, 8) := by kernel_rfl
theorem Sl0.of {F : Nat → Prop} {w0 w : World} {b bm : Nat} {D : DataW Unit} {fs : Nat → Value} {st : Sb} (L : LawF F w0 w (slabP b bm D fs st)) (T : Told D st) (G : GoodS st) (I : I64 st.bud) : Sl0 w b (slabP b bm D fs st).own st := ⟨bm, D, fs, rfl, L.q, fun k hk => (L.lt k hk).1, T, G, I⟩
theorem told_nil (bud : Int) : Told (.map []) (freshS bud) := ⟨fun _ _ => rfl, rfl⟩
set_option maxHeartbeats 2000000 in
theorem new_any (bud : Int) (hb : I64 bud) (w : World) : Calls Try.prog 13 #[.int .i64 bud] w fun e w' => ∃ b own, e = .returned (.pointer (some ⟨b, 0, none⟩)) ∧ (∀ k, own k → w.heap.size ≤ k) ∧ Sl0 w' b own (freshS bud) ∧ w.grownBy w' none := by
  have L1 := (LawF.bare w).many0 (I := (· < 6)) (A := freeP (freshS bud) (fun _ => .slice none 0 0)) (fun i _ => World.ownsRow_nil _ _ _ _) (fun i k hk => by cases hk)
  have L2 := L1.mapNew (P := Try.prog) (k := 35) (R := unitElem (H := Unit))
  have L3 := L2.box (.cells (headV bud 0 (fun _ => .slice none 0 0) [0, 0, 0, 0, 0, 0] w.heap.size) 51)
  rw [World.size_alloc] at L3
  have hmm := @run_makeMap Try.prog
  go_enter Try.func13, Try.ntmps13
  go_wp2
  go_ret
  refine ⟨_, rfl, _, ?_, Sl0.of (st := freshS bud) L3 (told_nil bud) (good_freshS bud) hb, ?_⟩
  · intro k hk
    exact (L3.lt k hk).2.elim (fun h => h.elim) id
  · exact L3.gr.to (fun k h => h.elim)
def upd (fs : Nat → Value) (k : Nat) (v : Value) : Nat → Value := fun j => if j = k then v else fs j
theorem headV_free (bud used : Int) (fs : Nat → Value) (ms : List Nat) (bm k : Nat) (hk : k < 6) (v : Value) : (headV bud used fs ms bm).setIfInBounds (3 + k) v = headV bud used (upd fs k v) ms bm := by
  have : k = 0 ∨ k = 1 ∨ k = 2 ∨ k = 3 ∨ k = 4 ∨ k = 5 := by omega
  rcases this with rfl | rfl | rfl | rfl | rfl | rfl <;> simp [headV, upd]
theorem headV_used (bud used : Int) (fs : Nat → Value) (ms : List Nat) (bm : Nat) (u : Int) : (headV bud used fs ms bm).setIfInBounds 1 (.int .i64 u) = headV bud u fs ms bm := by simp [headV]
theorem has_del {D : DataW Unit} {st : Sb} (T : Told D st) (G : GoodS st) (hm : Maps.Tidy D) {c : Ck} (hc : CkOk c) (hin : c ∈ st.inn) : Told (D.del (keyL c)) (freeS st c) := by
  have hnd := (List.nodup_append.1 G.nodup).1
  have hi : (freeS st c).inn = st.inn.erase c := by unfold freeS; rw [if_pos hin]
  refine ⟨fun d hd => ?_, ?_⟩
  · rw [hi]
    by_cases e : d = c
    · subst e
      rw [has_del_same]
      exact (decide_eq_false (fun h => (List.Nodup.mem_erase_iff hnd).1 h |>.1 rfl)).symm
    · rw [has_del_other (fun h => e (keyL_inj hd hc h)), T.has d hd]
      exact decide_eq_decide.2 ⟨fun h => (List.Nodup.mem_erase_iff hnd).2 ⟨e, h⟩, fun h => List.mem_of_mem_erase h⟩
  · have h1 := size_del (k := keyL c) hm
    rw [T.has c hc, decide_eq_true hin, T.size] at h1
    rw [hi, List.length_erase_of_mem hin]
    simp at h1
    omega
theorem gone_free {st : Sb} {k : Nat} {no : Int} (hin : ((k : Int), no) ∈ st.inn) (j : Nat) : goneN (freeS st ((k : Int), no)) j = if j = k then goneN st j ++ [no] else goneN st j := by
  unfold goneN freeS
  rw [if_pos hin]
  show (((st.gone ++ [((k : Int), no)]).filter _).map _) = _
  rw [List.filter_append, List.map_append]
  by_cases e : j = k
  · subst e
    simp
  · rw [if_neg e]
    have : ¬ ((k : Int) = (j : Int)) := by omega
    simp [this]
theorem intV_app (l : List Int) (x : Int) : intV (l ++ [x]) = intV l ++ [.int .i64 x] := by simp [intV]
/-- Behind a number's coming back. -/
theorem many_free {st : Sb} {fs : Nat → Value} {k : Nat} {no : Int} {v : Value} (hin : ((k : Int), no) ∈ st.inn) : turnAt (freeP st fs) k (rowP 0 3 1 v ((goneN st k).length + 1) (intV (goneN st k) ++ [.int .i64 no])) = freeP (freeS st ((k : Int), no)) (upd fs k v) := by
  funext j
  unfold turnAt freeP upd
  rw [gone_free hin]
  by_cases e : j = k
  · subst e
    simp [intV_app]
  · simp [e]
end Go.Proofs.Ytdjagifmcimedaa
