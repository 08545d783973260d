/- The statements' own helper that plays calls on a new list. Conditions: the contracts of package slru. -/
import Derived.Test.YtedfhikmlicbgaaSlruAll
namespace Go.Proofs.Ytedfhikmlicbgaa
open Go.RowKit Go.Shelf
variable {Ls : World → Nat → (Nat → Prop) → Sr → Prop}

set_option maxHeartbeats 4000000 in
theorem played_is (L : SlruLib Ls) {w0 w : World} {R : Part} (H : Law w0 w R) (most : Int) (hm : I64 most) {a : Option Addr} {len cap : Nat} {os : List Op8} (h : OpsAt w0 a len cap os) :
    Calls Try.prog 25 #[.int .i64 most, .slice a len cap] w fun e w' => ∃ b own st, e = .returned (.pointer (some ⟨b, 0, none⟩)) ∧ (allR st).length ≤ len ∧ st.most = most ∧ Law w0 w' ((lsP L b own st).and R) := by
  have hl := h.len_
  have hM : len ≤ maxLen := h.2
  have hM2 : len ≤ 9223372036854775807 := by unfold maxLen at hM; omega
  go_enter Try.func25, Try.ntmps25
  go_wp2_with (go_at_call 11; refine (new_is L H most hm).mono ?_; rintro e w1 ⟨b, own, rfl, H1⟩)
  go_loopw [6] (fun i wr => ∃ (k : Nat) (own : Nat → Prop) (st : Sr), k ≤ len ∧ i = .int .i64 k ∧ (allR st).length ≤ k ∧ st.most = most ∧ Law w0 wr ((lsP L b own st).and R)) (fun i _ => len - (intOf i).toNat)
  case atStart => exact ⟨0, own, freshR most, Nat.zero_le _, rfl, Nat.zero_le _, rfl, H1⟩
  case round =>
    clear H1
    obtain ⟨k, own, st, hk, rfl, hs, hmo, H1⟩ := hrel
    by_cases hlt : k < len
    · obtain ⟨ca, off, rfl, hcell, hok⟩ := h.at k (by omega)
      have c0 := (hcell.on (Nat.le_refl _) H1.below).kd
      have c1 := (hcell.on (Nat.le_refl _) H1.below).key
      have hki : (k : Int) < (len : Int) := by omega
      have hks := hok.key
      have hlt1 : (allR st).length < maxLen := by omega
      have hle1 : (allR st).length ≤ maxLen := by omega
      have A1 := hide (Nat.le_trans (len_add st os[k].key) (Nat.succ_le_succ hs))
      have A2 := hide (Nat.le_trans (Nat.le_of_eq (len_hit H1.good os[k].key)) (Nat.le_succ_of_le hs))
      have A3 := hide (Nat.le_trans (len_rem st os[k].key) (Nat.le_succ_of_le hs))
      have B1 := hide ((most_add st os[k].key).trans hmo)
      have B2 := hide ((most_hit st os[k].key).trans hmo)
      generalize os[k].key = s at *
      generalize os[k].kd = kd at *
      clear hcell hok
      by_cases e0 : kd = 0
      · subst e0
        go_wp2_with (go_at_call 12; refine (add_is L H1 hlt1 s hks _ _ rfl rfl).mono ?_; rintro e w2 ⟨rfl, own2, H2⟩)
        go_roundw
        case rel => exact ⟨k + 1, own2, _, by omega, by go_num, A1.out, B1.out, H2⟩
        case measure => simp [intOf]; omega
      · have f0 : (kd == 0) = false := beq_eq_false_iff_ne.2 e0
        by_cases e1 : kd = 1
        · subst e1
          go_wp2_with (go_at_call 14; refine (hit_is L H1 hle1 s hks _ _ rfl rfl).mono ?_; rintro e w2 ⟨rfl, own2, H2⟩)
          go_roundw
          case rel => exact ⟨k + 1, own2, _, by omega, by go_num, A2.out, B2.out, H2⟩
          case measure => simp [intOf]; omega
        · have f1 : (kd == 1) = false := beq_eq_false_iff_ne.2 e1
          by_cases e2 : kd = 2
          · subst e2
            go_wp2_with (go_at_call 16; refine (remove_is L H1 hle1 s hks _ _ rfl rfl).mono ?_; rintro e w2 ⟨rfl, own2, H2⟩)
            go_roundw
            case rel => exact ⟨k + 1, own2, _, by omega, by go_num, A3.out, hmo, H2⟩
            case measure => simp [intOf]; omega
          · have f2 : (kd == 2) = false := beq_eq_false_iff_ne.2 e2
            clear e0 e1 e2
            go_wp2
            go_roundw
            case rel => exact ⟨k + 1, own, st, by omega, by go_num, by omega, hmo, H1⟩
            case measure => simp [intOf]; omega
    · go_wp2
      go_ret
      exact ⟨b, own, st, rfl, by omega, hmo, H1⟩
end Go.Proofs.Ytedfhikmlicbgaa
