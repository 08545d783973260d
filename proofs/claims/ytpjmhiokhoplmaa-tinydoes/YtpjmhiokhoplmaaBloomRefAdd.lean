/- The document's own filter, when a text is added: the places that were not set come behind those that were. Conditions: texts take at most 140737488351232 bytes. -/
import Derived.Test.YtpjmhiokhoplmaaBloomRef
import Derived.Maps.AppendAt
namespace Go.Proofs.Ytpjmhiokhoplmaa
open Go.RowKit

theorem pair_set {w : World} {c : Nat} {t : TypeId} {x v : Value} (h : w.heap[c]? = some (.cells #[x, v] t (0, 0))) (v' : Value) : (w.setCell ⟨c, 1, none⟩ v').heap[c]? = some (.cells #[x, v'] t (0, 0)) :=
  heap_setCell_same w c 1 #[x, v] t v' h
theorem r_append {n0 c sd p : Nat} {W w1 : World} {S : List Nat} {v v' : Value} {tmp : Obj} (h : RFil n0 W c sd S v) (hvc : v.ownBlock ≠ some c)
    (hown' : w1.ownsRow n0 3 1 v' (S.length + 1) (refPlV S ++ [.int .i64 (p : Int)])) (hgrow : (W.alloc tmp).grownBy w1 v.ownBlock) (hat : v'.ownBlock = v.ownBlock ∨ v'.ownBlock = some (W.alloc tmp).heap.size) :
    w1.cell? ⟨c, 1, none⟩ = some v ∧ w1.frozen? ⟨c, 1, none⟩ = false ∧ RFil n0 (w1.setCell ⟨c, 1, none⟩ v') c sd (S ++ [p]) v' ∧ v'.ownBlock ≠ some c ∧
      Gr (fun k => k = c ∨ v.ownBlock = some k) W (w1.setCell ⟨c, 1, none⟩ v') ∧ (∀ k, v'.ownBlock = some k → v.ownBlock = some k ∨ W.heap.size ≤ k) := by
  have hc := h.lt
  have hca : c < (W.alloc tmp).heap.size := by rw [World.size_alloc]; omega
  have h1 : w1.heap[c]? = some (.cells #[.int .u64 sd, v] 48 (0, 0)) := by
    rw [hgrow.block c hca (fun e => hvc e.symm), Below.heap_alloc _ _ _ hc]
    exact h.1
  have hv' : v'.ownBlock ≠ some c := by
    rcases hat with e | e
    · rw [e]; exact hvc
    · rw [e]; intro e'; cases e'; omega
  refine ⟨by simp [World.cell?, h1], by simp [World.frozen?, h1], ⟨pair_set h1 v', ?_⟩, hv', ?_, ?_⟩
  · have h2 := ownsRow_setCell_other hown' (a := ⟨c, 1, none⟩) hv' v'
    have e1 : (S ++ [p]).length = S.length + 1 := by simp
    have e2 : refPlV (S ++ [p]) = refPlV S ++ [.int .i64 (p : Int)] := by unfold refPlV; simp
    rw [e1, e2]
    exact h2
  · refine ⟨hgrow.1, hgrow.2, hgrow.3, ?_, fun k hk hr => ?_⟩
    · have := hgrow.4
      rw [World.size_alloc] at this
      rw [World.size_setCell]
      omega
    · rw [heap_setCell_other _ _ _ _ (fun e => hr (.inl e)), hgrow.block k (by rw [World.size_alloc]; omega) (fun e => hr (.inr e.symm)), Below.heap_alloc _ _ _ hk]
  · intro k hk
    rcases hat with e | e
    · left; rw [← e]; exact hk
    · right
      rw [e] at hk
      cases hk
      rw [World.size_alloc]
      omega
theorem own_form {W : World} {base : Nat} {e : TypeId} {size : Nat} {v : Value} {k : Nat} {xs : List Value} (h : W.ownsRow base e size v k xs) (hk : 0 < k) : ∃ g cap, v = .slice (some ⟨g, 0, none⟩) k cap := by
  rcases h.2 with ⟨_, h0⟩ | ⟨g, cap, _, rfl, _⟩
  · omega
  · exact ⟨g, cap, rfl⟩
theorem info_int : (Try.prog.info? 3).map (fun i => (i.zero, i.size, i.bytes)) = some (some (.int .i64 0), 1, 8) := by kernel_rfl

set_option maxHeartbeats 4000000 in
theorem radd_any {n0 c sd : Nat} {w : World} {S : List Nat} {v : Value} (h : RFil n0 w c sd S v) (hvc : v.ownBlock ≠ some c) (hn0 : n0 ≤ w.heap.size) (hl : S.length ≤ 10000) (s : ByteArray) (hs : s.size ≤ 140737488351232) :
    Calls Try.prog 27 #[.pointer (some ⟨c, 0, none⟩), .string s] w fun e w' => e = .returned (.bool (hasS S (pls sd s.data.toList))) ∧ ∃ v', RFil n0 w' c sd (addS S (pls sd s.data.toList)) v' ∧ v'.ownBlock ≠ some c ∧
      Gr (fun k => k = c ∨ v.ownBlock = some k) w w' ∧ (∀ k, v'.ownBlock = some k → v.ownBlock = some k ∨ w.heap.size ≤ k) := by
  obtain ⟨i0, hi, hz0, hz1, hz2⟩ := info_parts info_int
  obtain ⟨r, hr⟩ : ∃ r, hasS S (pls sd s.data.toList) = r := ⟨_, rfl⟩
  have HR := hide hr
  clear hr
  go_enter Try.func27, Try.ntmps27
  go_wp2_with (go_at_call 32; refine (rhas_any h (by omega) s hs).mono ?_; rintro e w1 ⟨he, rfl⟩; rw [HR.out] at he; subst he)
  go_loopw [6] (fun i wr => ∃ (k : Nat) (T : List Nat) (u : Value), k ≤ 3 ∧ i = .int .i64 k ∧ T.length ≤ S.length + k ∧ Hid (addS S (pls sd s.data.toList) = addS T ((pls sd s.data.toList).drop k)) ∧ RFil n0 wr c sd T u ∧ u.ownBlock ≠ some c ∧ n0 ≤ wr.heap.size ∧
      Gr (fun k => k = c ∨ v.ownBlock = some k) w wr ∧ (∀ k, u.ownBlock = some k → v.ownBlock = some k ∨ w.heap.size ≤ k)) (fun i _ => 3 - (intOf i).toNat)
  case atStart => exact ⟨0, S, v, Nat.zero_le _, rfl, Nat.le_refl _, rfl, h, hvc, hn0, Gr.refl _ _, fun k hk => .inl hk⟩
  case round =>
    clear h hvc hn0
    obtain ⟨k, T, u, hk, rfl, hT, HK, h, huc, hn0, hg, hu⟩ := hrel
    by_cases hlt : k < 3
    · have HD : Hid ((pls sd s.data.toList).drop k = placeN sd s.data.toList k :: (pls sd s.data.toList).drop (k + 1)) := by
        have : k = 0 ∨ k = 1 ∨ k = 2 := by omega
        rcases this with rfl | rfl | rfl <;> rfl
      obtain ⟨p, hp⟩ : ∃ p, placeN sd s.data.toList k = p := ⟨_, rfl⟩
      have HP := hide hp
      have hseed := h.seed
      have hset := h.set
      have HI := hide (fun p => is_any h (by omega) p)
      by_cases hm : p ∈ T
      · have HS : Hid (addS S (pls sd s.data.toList) = addS T ((pls sd s.data.toList).drop (k + 1))) := by
          show _ = _
          rw [HK.out, HD.out, HP.out]
          show addS (insS T p) _ = _
          rw [show insS T p = T from if_pos hm]
        have HM := hide (decide_eq_true hm)
        clear hp hm
        go_wp2_with (first
          | (go_at_call 39; refine (place_any sd s hs k hlt _).mono ?_; rintro e w1 ⟨he, rfl⟩; rw [HP.out] at he; subst he)
          | (go_at_call 40; refine (HI.out p).mono ?_; rintro e w1 ⟨he, rfl⟩; rw [HM.out] at he; subst he))
        go_roundw
        case rel => exact ⟨k + 1, T, u, by omega, by go_num, by omega, HS, h, huc, hn0, hg, hu⟩
        case measure => simp [intOf]; omega
      · have HS : Hid (addS S (pls sd s.data.toList) = addS (T ++ [p]) ((pls sd s.data.toList).drop (k + 1))) := by
          show _ = _
          rw [HK.out, HD.out, HP.out]
          show addS (insS T p) _ = _
          rw [show insS T p = T ++ [p] from if_neg hm]
        have HM := hide (decide_eq_false hm)
        have HRow := hide h.2
        clear hp hm
        go_wp2_with (first
          | (go_at_call 39; refine (place_any sd s hs k hlt _).mono ?_; rintro e w1 ⟨he, rfl⟩; rw [HP.out] at he; subst he)
          | (go_at_call 40; refine (HI.out p).mono ?_; rintro e w1 ⟨he, rfl⟩; rw [HM.out] at he; subst he)
          | (at_builtin; refine wpList_append_own_at _ rfl _ _ 46 rfl n0 3 i0 (.int .i64 0) 1 8 Try.underlying46 hi hz0 hz1 hz2 rfl (by decide) _ _ _ rfl (HRow.out.alloc _) ⟨_, 0, none⟩ 1 1 [_] rfl rfl (cell_one_new _ _ _) (by simp [Value.oneCell']) (by unfold maxLen; omega) (by omega) (by simp; omega) ?_; intro v' w1 hown' hgrow _ hat; obtain ⟨g', cap', rfl⟩ := own_form hown' (by omega); obtain ⟨c1, c2, h2, h3, h4, h5⟩ := r_append h huc hown' hgrow hat))
        go_roundw
        case rel => exact ⟨k + 1, T ++ [p], _, by omega, by go_num, by simp; omega, HS, h2, h3, by have := h4.size; omega, hg.then h4 (fun i hi hF => hF.elim .inl (fun e => (hu i e).elim .inr (fun hh => by omega))), fun i hi => (h5 i hi).elim (fun e => hu i e) (fun e => .inr (by have := hg.size; omega))⟩
        case measure => simp [intOf]; omega
    · obtain rfl : k = 3 := by omega
      have HE : Hid (addS S (pls sd s.data.toList) = T) := HK.out
      go_wp2
      go_ret
      rw [HE.out, HR.out]
      exact ⟨rfl, u, h, huc, hg, hu⟩
end Go.Proofs.Ytpjmhiokhoplmaa
