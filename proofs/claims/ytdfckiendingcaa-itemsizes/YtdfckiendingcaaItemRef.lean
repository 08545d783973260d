/- What the document's own layer 10 answers. Conditions: times up to 2 to the 40th, seconds up to 2 to the 41st, where times are added. -/
import Derived.Test.YtdfckiendingcaaItemCon
namespace Go.Proofs.Ytdfckiendingcaa
open Go.RowKit Go.Sort

theorem wrap_id10 {a : Int} (h : -9223372036854775808 ≤ a ∧ a < 9223372036854775808) : wrap64 a = a := by unfold wrap64; omega
set_option maxHeartbeats 1000000 in
theorem refAt_any (exp now : Int) (he : T40 exp) (hn : N41 now) (w : World) : Calls Try.prog 12 #[.int .i64 exp, .int .i64 now] w fun e w' => e = .returned (.int .i64 (atN exp now)) ∧ w' = w := by
  unfold T40 at he
  unfold N41 at hn
  by_cases h1 : now < 1
  · have hm : max now 1 = 1 := by omega
    by_cases h2 : exp = 0
    · subst h2
      go_enter Try.func12, Try.ntmps12
      go_wp2
      go_ret
      exact ⟨rfl, rfl⟩
    · have hb : (exp == 0) = false := beq_eq_false_iff_ne.2 h2
      by_cases h3 : exp < 0
      · have HA : Hid (atN exp now = 1) := by show _ = _; unfold atN; rw [if_neg h2, if_pos h3, hm]
        go_enter Try.func12, Try.ntmps12
        go_wp2
        go_ret
        exact ⟨by rw [HA.out]; rfl, rfl⟩
      · by_cases h4 : exp ≤ 2592000
        · have HA : Hid (atN exp now = 1 + exp) := by show _ = _; unfold atN; rw [if_neg h2, if_neg h3, if_pos h4, hm]
          have e1 : wrap64 (1 + exp) = 1 + exp := wrap_id10 (by omega)
          go_enter Try.func12, Try.ntmps12
          go_wp2
          go_ret
          exact ⟨by rw [HA.out]; rfl, rfl⟩
        · have HA : Hid (atN exp now = exp) := by show _ = _; unfold atN; rw [if_neg h2, if_neg h3, if_neg h4]
          go_enter Try.func12, Try.ntmps12
          go_wp2
          go_ret
          exact ⟨by rw [HA.out]; rfl, rfl⟩
  · have hm : max now 1 = now := by omega
    by_cases h2 : exp = 0
    · subst h2
      go_enter Try.func12, Try.ntmps12
      go_wp2
      go_ret
      exact ⟨rfl, rfl⟩
    · have hb : (exp == 0) = false := beq_eq_false_iff_ne.2 h2
      by_cases h3 : exp < 0
      · have HA : Hid (atN exp now = now) := by show _ = _; unfold atN; rw [if_neg h2, if_pos h3, hm]
        go_enter Try.func12, Try.ntmps12
        go_wp2
        go_ret
        exact ⟨by rw [HA.out]; rfl, rfl⟩
      · by_cases h4 : exp ≤ 2592000
        · have HA : Hid (atN exp now = now + exp) := by show _ = _; unfold atN; rw [if_neg h2, if_neg h3, if_pos h4, hm]
          have e1 : wrap64 (now + exp) = now + exp := wrap_id10 (by omega)
          go_enter Try.func12, Try.ntmps12
          go_wp2
          go_ret
          exact ⟨by rw [HA.out]; rfl, rfl⟩
        · have HA : Hid (atN exp now = exp) := by show _ = _; unfold atN; rw [if_neg h2, if_neg h3, if_neg h4]
          go_enter Try.func12, Try.ntmps12
          go_wp2
          go_ret
          exact ⟨by rw [HA.out]; rfl, rfl⟩
set_option maxHeartbeats 1000000 in
theorem refTTL_any (i : It) (now : Int) (w : World) : Calls Try.prog 14 #[.agg (itC i), .int .i64 now] w fun e w' => e = .returned (.int .i64 (ttlN i.exp now)) ∧ Gd w w' := by
  obtain ⟨key, va, vl, vc, fl, exp, cas, sec, seq, st, won, seen⟩ := i
  have hg := Gd.alloc w (.cells (itC ⟨key, va, vl, vc, fl, exp, cas, sec, seq, st, won, seen⟩) 26)
  unfold itC at *
  dsimp only at *
  by_cases h1 : exp = 0
  · subst h1
    go_enter Try.func14, Try.ntmps14
    go_wp2
    go_ret
    exact ⟨rfl, hg⟩
  · have hb : (exp == 0) = false := beq_eq_false_iff_ne.2 h1
    by_cases h2 : exp ≤ now
    · have HA : Hid (ttlN exp now = 0) := by show _ = _; unfold ttlN; rw [if_neg h1, if_pos h2]
      go_enter Try.func14, Try.ntmps14
      go_wp2
      go_ret
      exact ⟨by rw [HA.out]; rfl, hg⟩
    · have HA : Hid (ttlN exp now = wrap64 (exp - now)) := by show _ = _; unfold ttlN; rw [if_neg h1, if_neg h2]
      go_enter Try.func14, Try.ntmps14
      go_wp2
      go_ret
      exact ⟨by rw [HA.out]; rfl, hg⟩
set_option maxHeartbeats 1000000 in
theorem refSize_any (i : It) (w : World) (hk : i.key.size ≤ 100000) (hl : i.vl ≤ 100000) : Calls Try.prog 16 #[.agg (itC i)] w fun e w' => e = .returned (.int .i64 (50 + (i.key.size : Nat) + (i.vl : Nat))) ∧ Gd w w' := by
  obtain ⟨key, va, vl, vc, fl, exp, cas, sec, seq, st, won, seen⟩ := i
  have hg := Gd.alloc w (.cells (itC ⟨key, va, vl, vc, fl, exp, cas, sec, seq, st, won, seen⟩) 26)
  unfold itC at *
  dsimp only at *
  have e1 : wrap64 (50 + (key.size : Int)) = 50 + (key.size : Int) := wrap_id10 (by omega)
  have e2 : wrap64 (50 + (key.size : Int) + (vl : Int)) = 50 + (key.size : Int) + (vl : Int) := wrap_id10 (by omega)
  go_enter Try.func16, Try.ntmps16
  go_wp2
  go_ret
  exact ⟨rfl, hg⟩
end Go.Proofs.Ytdfckiendingcaa
