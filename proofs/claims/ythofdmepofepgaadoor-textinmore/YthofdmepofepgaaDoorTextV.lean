/- Which verb a word is, as package textin tells it. Conditions: none. -/
import Derived.Test.YthofdmepofepgaaDoorG03Joined
import Derived.Test.YthofdmepofepgaaDoorG07Joined
namespace Go.Proofs.YthofdmepofepgaaDoor
open Go.RowKit

theorem opN_get : opN vb_get = some 0 := by decide
theorem opN_gets : opN vb_gets = some 0 := by decide
theorem opN_gat : opN vb_gat = some 1 := by decide
theorem opN_gats : opN vb_gats = some 1 := by decide
theorem opN_set : opN vb_set = some 3 := by decide
theorem opN_cas : opN vb_cas = some 3 := by decide
theorem opN_add : opN vb_add = some 4 := by decide
theorem opN_replace : opN vb_replace = some 5 := by decide
theorem opN_append : opN vb_append = some 6 := by decide
theorem opN_prepend : opN vb_prepend = some 7 := by decide
theorem opN_delete : opN vb_delete = some 8 := by decide
theorem opN_incr : opN vb_incr = some 10 := by decide
theorem opN_decr : opN vb_decr = some 11 := by decide
theorem opN_touch : opN vb_touch = some 2 := by decide
theorem opN_flush : opN vb_flush = some 13 := by decide
theorem opN_version : opN vb_version = some 15 := by decide
theorem opN_quit : opN vb_quit = some 16 := by decide
/-- No such first word. -/
structure NoVerb (v : List UInt8) : Prop where
  get_ : (v == vb_get) = false
  gets_ : (v == vb_gets) = false
  gat_ : (v == vb_gat) = false
  gats_ : (v == vb_gats) = false
  set_ : (v == vb_set) = false
  cas_ : (v == vb_cas) = false
  add_ : (v == vb_add) = false
  replace_ : (v == vb_replace) = false
  append_ : (v == vb_append) = false
  prepend_ : (v == vb_prepend) = false
  delete_ : (v == vb_delete) = false
  incr_ : (v == vb_incr) = false
  decr_ : (v == vb_decr) = false
  touch_ : (v == vb_touch) = false
  flush_ : (v == vb_flush) = false
  version_ : (v == vb_version) = false
  quit_ : (v == vb_quit) = false
theorem NoVerb.op {v : List UInt8} (h : NoVerb v) : opN v = none := by
  unfold opN
  simp only [show ¬ v = vb_get from by simpa using h.get_, show ¬ v = vb_gets from by simpa using h.gets_, show ¬ v = vb_gat from by simpa using h.gat_, show ¬ v = vb_gats from by simpa using h.gats_, show ¬ v = vb_set from by simpa using h.set_, show ¬ v = vb_cas from by simpa using h.cas_, show ¬ v = vb_add from by simpa using h.add_, show ¬ v = vb_replace from by simpa using h.replace_, show ¬ v = vb_append from by simpa using h.append_, show ¬ v = vb_prepend from by simpa using h.prepend_, show ¬ v = vb_delete from by simpa using h.delete_, show ¬ v = vb_incr from by simpa using h.incr_, show ¬ v = vb_decr from by simpa using h.decr_, show ¬ v = vb_touch from by simpa using h.touch_, show ¬ v = vb_flush from by simpa using h.flush_, show ¬ v = vb_version from by simpa using h.version_, show ¬ v = vb_quit from by simpa using h.quit_, or_self, if_false]
theorem verbs (v : List UInt8) : v = vb_get ∨ v = vb_gets ∨ v = vb_gat ∨ v = vb_gats ∨ v = vb_set ∨ v = vb_cas ∨ v = vb_add ∨ v = vb_replace ∨ v = vb_append ∨ v = vb_prepend ∨ v = vb_delete ∨ v = vb_incr ∨ v = vb_decr ∨ v = vb_touch ∨ v = vb_flush ∨ v = vb_version ∨ v = vb_quit ∨ NoVerb v := by
  by_cases h_get : v = vb_get
  · exact .inl h_get
  by_cases h_gets : v = vb_gets
  · exact .inr (.inl h_gets)
  by_cases h_gat : v = vb_gat
  · exact .inr (.inr (.inl h_gat))
  by_cases h_gats : v = vb_gats
  · exact .inr (.inr (.inr (.inl h_gats)))
  by_cases h_set : v = vb_set
  · exact .inr (.inr (.inr (.inr (.inl h_set))))
  by_cases h_cas : v = vb_cas
  · exact .inr (.inr (.inr (.inr (.inr (.inl h_cas)))))
  by_cases h_add : v = vb_add
  · exact .inr (.inr (.inr (.inr (.inr (.inr (.inl h_add))))))
  by_cases h_replace : v = vb_replace
  · exact .inr (.inr (.inr (.inr (.inr (.inr (.inr (.inl h_replace)))))))
  by_cases h_append : v = vb_append
  · exact .inr (.inr (.inr (.inr (.inr (.inr (.inr (.inr (.inl h_append))))))))
  by_cases h_prepend : v = vb_prepend
  · exact .inr (.inr (.inr (.inr (.inr (.inr (.inr (.inr (.inr (.inl h_prepend)))))))))
  by_cases h_delete : v = vb_delete
  · exact .inr (.inr (.inr (.inr (.inr (.inr (.inr (.inr (.inr (.inr (.inl h_delete))))))))))
  by_cases h_incr : v = vb_incr
  · exact .inr (.inr (.inr (.inr (.inr (.inr (.inr (.inr (.inr (.inr (.inr (.inl h_incr)))))))))))
  by_cases h_decr : v = vb_decr
  · exact .inr (.inr (.inr (.inr (.inr (.inr (.inr (.inr (.inr (.inr (.inr (.inr (.inl h_decr))))))))))))
  by_cases h_touch : v = vb_touch
  · exact .inr (.inr (.inr (.inr (.inr (.inr (.inr (.inr (.inr (.inr (.inr (.inr (.inr (.inl h_touch)))))))))))))
  by_cases h_flush : v = vb_flush
  · exact .inr (.inr (.inr (.inr (.inr (.inr (.inr (.inr (.inr (.inr (.inr (.inr (.inr (.inr (.inl h_flush))))))))))))))
  by_cases h_version : v = vb_version
  · exact .inr (.inr (.inr (.inr (.inr (.inr (.inr (.inr (.inr (.inr (.inr (.inr (.inr (.inr (.inr (.inl h_version)))))))))))))))
  by_cases h_quit : v = vb_quit
  · exact .inr (.inr (.inr (.inr (.inr (.inr (.inr (.inr (.inr (.inr (.inr (.inr (.inr (.inr (.inr (.inr (.inl h_quit))))))))))))))))
  exact .inr (.inr (.inr (.inr (.inr (.inr (.inr (.inr (.inr (.inr (.inr (.inr (.inr (.inr (.inr (.inr (.inr ⟨by simpa using h_get, by simpa using h_gets, by simpa using h_gat, by simpa using h_gats, by simpa using h_set, by simpa using h_cas, by simpa using h_add, by simpa using h_replace, by simpa using h_append, by simpa using h_prepend, by simpa using h_delete, by simpa using h_incr, by simpa using h_decr, by simpa using h_touch, by simpa using h_flush, by simpa using h_version, by simpa using h_quit⟩))))))))))))))))
set_option maxRecDepth 100000 in
set_option maxHeartbeats 4000000 in
theorem opOf_any (v : List UInt8) (w : World) : Calls Tryd.prog 40 #[.string (mkB v)] w fun e w' => e = .returned (.tuple #[.int .i64 ((opN v).getD 0), .bool (opN v).isSome]) ∧ w = w' := by
  rcases verbs v with rfl | rfl | rfl | rfl | rfl | rfl | rfl | rfl | rfl | rfl | rfl | rfl | rfl | rfl | rfl | rfl | rfl | h
  · rw [opN_get]
    simp only [mkB, vb_get, Option.getD, Option.isSome]
    go_enter Tryd.func40, Tryd.ntmps40
    go_wp2
    go_ret2
    exact ⟨rfl, rfl⟩
  · rw [opN_gets]
    simp only [mkB, vb_gets, Option.getD, Option.isSome]
    go_enter Tryd.func40, Tryd.ntmps40
    go_wp2
    go_ret2
    exact ⟨rfl, rfl⟩
  · rw [opN_gat]
    simp only [mkB, vb_gat, Option.getD, Option.isSome]
    go_enter Tryd.func40, Tryd.ntmps40
    go_wp2
    go_ret2
    exact ⟨rfl, rfl⟩
  · rw [opN_gats]
    simp only [mkB, vb_gats, Option.getD, Option.isSome]
    go_enter Tryd.func40, Tryd.ntmps40
    go_wp2
    go_ret2
    exact ⟨rfl, rfl⟩
  · rw [opN_set]
    simp only [mkB, vb_set, Option.getD, Option.isSome]
    go_enter Tryd.func40, Tryd.ntmps40
    go_wp2
    go_ret2
    exact ⟨rfl, rfl⟩
  · rw [opN_cas]
    simp only [mkB, vb_cas, Option.getD, Option.isSome]
    go_enter Tryd.func40, Tryd.ntmps40
    go_wp2
    go_ret2
    exact ⟨rfl, rfl⟩
  · rw [opN_add]
    simp only [mkB, vb_add, Option.getD, Option.isSome]
    go_enter Tryd.func40, Tryd.ntmps40
    go_wp2
    go_ret2
    exact ⟨rfl, rfl⟩
  · rw [opN_replace]
    simp only [mkB, vb_replace, Option.getD, Option.isSome]
    go_enter Tryd.func40, Tryd.ntmps40
    go_wp2
    go_ret2
    exact ⟨rfl, rfl⟩
  · rw [opN_append]
    simp only [mkB, vb_append, Option.getD, Option.isSome]
    go_enter Tryd.func40, Tryd.ntmps40
    go_wp2
    go_ret2
    exact ⟨rfl, rfl⟩
  · rw [opN_prepend]
    simp only [mkB, vb_prepend, Option.getD, Option.isSome]
    go_enter Tryd.func40, Tryd.ntmps40
    go_wp2
    go_ret2
    exact ⟨rfl, rfl⟩
  · rw [opN_delete]
    simp only [mkB, vb_delete, Option.getD, Option.isSome]
    go_enter Tryd.func40, Tryd.ntmps40
    go_wp2
    go_ret2
    exact ⟨rfl, rfl⟩
  · rw [opN_incr]
    simp only [mkB, vb_incr, Option.getD, Option.isSome]
    go_enter Tryd.func40, Tryd.ntmps40
    go_wp2
    go_ret2
    exact ⟨rfl, rfl⟩
  · rw [opN_decr]
    simp only [mkB, vb_decr, Option.getD, Option.isSome]
    go_enter Tryd.func40, Tryd.ntmps40
    go_wp2
    go_ret2
    exact ⟨rfl, rfl⟩
  · rw [opN_touch]
    simp only [mkB, vb_touch, Option.getD, Option.isSome]
    go_enter Tryd.func40, Tryd.ntmps40
    go_wp2
    go_ret2
    exact ⟨rfl, rfl⟩
  · rw [opN_flush]
    simp only [mkB, vb_flush, Option.getD, Option.isSome]
    go_enter Tryd.func40, Tryd.ntmps40
    go_wp2
    go_ret2
    exact ⟨rfl, rfl⟩
  · rw [opN_version]
    simp only [mkB, vb_version, Option.getD, Option.isSome]
    go_enter Tryd.func40, Tryd.ntmps40
    go_wp2
    go_ret2
    exact ⟨rfl, rfl⟩
  · rw [opN_quit]
    simp only [mkB, vb_quit, Option.getD, Option.isSome]
    go_enter Tryd.func40, Tryd.ntmps40
    go_wp2
    go_ret2
    exact ⟨rfl, rfl⟩
  · rw [h.op]
    have h_get := h.get_
    have h_gets := h.gets_
    have h_gat := h.gat_
    have h_gats := h.gats_
    have h_set := h.set_
    have h_cas := h.cas_
    have h_add := h.add_
    have h_replace := h.replace_
    have h_append := h.append_
    have h_prepend := h.prepend_
    have h_delete := h.delete_
    have h_incr := h.incr_
    have h_decr := h.decr_
    have h_touch := h.touch_
    have h_flush := h.flush_
    have h_version := h.version_
    have h_quit := h.quit_
    simp only [vb_get, vb_gets, vb_gat, vb_gats, vb_set, vb_cas, vb_add, vb_replace, vb_append, vb_prepend, vb_delete, vb_incr, vb_decr, vb_touch, vb_flush, vb_version, vb_quit] at h_get h_gets h_gat h_gats h_set h_cas h_add h_replace h_append h_prepend h_delete h_incr h_decr h_touch h_flush h_version h_quit
    simp only [mkB, Option.getD, Option.isSome]
    clear h
    go_enter Tryd.func40, Tryd.ntmps40
    go_wp2
    go_ret2
    exact ⟨rfl, rfl⟩
end Go.Proofs.YthofdmepofepgaaDoor
