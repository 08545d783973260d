/- NumDecimals returns true for every text and every number, and writes nothing that was there. Conditions: the text takes at most 2^47 - 4096 bytes (the form's own reach); the listed variables hold what the program's text lays. -/
import Derived.Test.YtpoidlmemoocmaaDoorRefSigned
import Derived.Test.YtpoidlmemoocmaaDoorRefShow
namespace Go.Proofs.YtpoidlmemoocmaaDoor
open Go.RowKit

set_option maxHeartbeats 2000000 in
theorem numDecimals_nat (s : ByteArray) (hs : s.size ≤ 140737488351232) (n : Nat) (hn : n < 18446744073709551616) (w : World) (hL : Laid w) :
    Calls Tryd.prog 3 #[.string s, .int .u64 n] w fun e w' => e = .returned (.bool true) ∧ Below w.heap.size w w' := by
  have hB : Below w.heap.size w w := Below.refl _ _
  go_enter Tryd.func3, Tryd.ntmps3
  go_wp2_with (first
    | (go_at_call 9; refine (awake_any _ (by assumption)).mono ?_; rintro e w' ⟨rfl, hb⟩; have hL' := Laid.on (by assumption) hb; have hB' := Bt (by assumption) hb)
    | (go_at_call 10; refine (decimal_any s hs _ (by assumption)).mono ?_; rintro e w' ⟨rfl, hb⟩; have hL' := Laid.on (by assumption) hb; have hB' := Bt (by assumption) hb)
    | (go_at_call 12; refine (signed_any s hs _ (by assumption)).mono ?_; rintro e w' ⟨rfl, hb⟩; have hL' := Laid.on (by assumption) hb; have hB' := Bt (by assumption) hb)
    | (go_at_call 11; refine (refDecimal_any s hs _).mono ?_; rintro e w' ⟨rfl, rfl⟩)
    | (go_at_call 13; refine (refSigned_any s hs _).mono ?_; rintro e w' ⟨rfl, rfl⟩)
    | (go_at_call 14; refine (show_nat n hn _ (by assumption)).mono ?_; rintro e w' ⟨rfl, hb⟩; have hL' := Laid.on (by assumption) hb; have hB' := Bt (by assumption) hb)
    | (go_at_call 15; refine (refShow_nat n hn _).mono ?_; rintro e w' ⟨rfl, hb⟩; have hB' := Bt (by assumption) hb))
  go_ret
  exact ⟨rfl, by assumption⟩

theorem numDecimals_walk (s0 : ByteArray) (w0 : s0.size ≤ 140737488351232) (a1 : Int) (w1 : (Lit.int .u64 a1).wf = true) (W : World) (hL : Laid W) :
    Calls Tryd.prog 3 #[.string s0, .int .u64 a1] W fun e W' => e = .returned (.bool true) ∧ Below W.heap.size W W' := by
  have e1 : IntKind.u64.min = 0 := rfl
  have e2 : IntKind.u64.max = 18446744073709551615 := rfl
  simp [Lit.wf, e1, e2] at w1
  obtain ⟨n, rfl⟩ : ∃ n : Nat, a1 = n := ⟨a1.toNat, by omega⟩
  exact numDecimals_nat s0 w0 n (by omega) W hL
end Go.Proofs.YtpoidlmemoocmaaDoor
