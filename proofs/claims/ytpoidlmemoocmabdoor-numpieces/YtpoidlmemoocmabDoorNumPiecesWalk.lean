/- NumPieces returns true for every two slices of bytes, and writes nothing that was there. Conditions: the listed variables hold what the program's text lays. -/
import Derived.Test.YtpoidlmemoocmabDoorSrc
import Derived.Test.YtpoidlmemoocmabDoorAppRun
namespace Go.Proofs.YtpoidlmemoocmabDoor
open Go.RowKit

/-- The number of bytes, not kept to 64 bits. -/
def val (zs : List Int) : Int := zs.foldl (fun a z => a * 256 + z) 0
theorem fold_val : ∀ (l : List Int) (a b : Int), a % 18446744073709551616 = b % 18446744073709551616 → (l.foldl (fun a z => (a * 256 + z) % 18446744073709551616) a) % 18446744073709551616 = (l.foldl (fun a z => a * 256 + z) b) % 18446744073709551616
  | [], _, _, h => h
  | z :: l, a, b, h => fold_val l _ _ (by simp only []; omega)
theorem num_val (l : List Int) : num8 l = val l % 18446744073709551616 := by
  have h := fold_val l 0 0 rfl
  have hb := num8_bd l
  show num8 l = _
  have e : num8 l % 18446744073709551616 = num8 l := by omega
  rw [← e]
  exact h
theorem fold_from : ∀ (l : List Int) (a : Int), l.foldl (fun a z => a * 256 + z) a = a * 256 ^ l.length + l.foldl (fun a z => a * 256 + z) 0
  | [], a => by simp
  | z :: l, a => by
    simp only [List.foldl_cons, List.length_cons]
    rw [fold_from l (a * 256 + z), fold_from l (0 * 256 + z), Int.pow_succ, Int.zero_mul, Int.zero_add, Int.add_mul, Int.add_assoc, Int.mul_assoc, Int.mul_comm 256]
theorem val_append (a b : List Int) : val (a ++ b) = val a * 256 ^ b.length + val b := by
  unfold val
  rw [List.foldl_append, fold_from b]
theorem num_append (a b : List Int) : num8 (a ++ b) = (num8 a * 256 ^ b.length % 18446744073709551616 + num8 b) % 18446744073709551616 := by
  rw [num_val, num_val, num_val, val_append, Int.mul_emod (val a % 18446744073709551616), Int.emod_emod, ← Int.mul_emod]
  omega
theorem ret_bool {b : Bool} (h : b = true) : Ending.returned (.bool b) = .returned (.bool true) := by rw [h]
theorem pow_step (m : Int) (k : Nat) : Value.int .u64 (IntKind.u64.wrap (m * 256 ^ k % 18446744073709551616 * 256)) = .int .u64 (m * 256 ^ (k + 1) % 18446744073709551616) := by
  rw [IntKind.wrap_u64, Int.pow_succ, ← Int.mul_assoc]
  congr 1
  omega

set_option maxHeartbeats 2000000 in
theorem numPieces_in (a0 : Option Addr) (l0 c0 : Nat) (z0 : List Int) (a1 : Option Addr) (l1 c1 : Nat) (z1 : List Int) (w : World) (h0 : IsRow .u8 w a0 l0 c0 z0) (h1 : IsRow .u8 w a1 l1 c1 z1) (hl0 : l0 ≤ 4) (hl1 : l1 ≤ 4) (hL : Laid w) :
    Calls Tryd.prog 4 #[.slice a0 l0 c0, .slice a1 l1 c1] w fun e w' => e = .returned (.bool true) ∧ Below w.heap.size w w' := by
  have i0 : (l0 : Int) ≤ 4 := by omega
  have i1 : (l1 : Int) ≤ 4 := by omega
  obtain ⟨x, hx⟩ : ∃ x, x = num8 (z0.take l0) := ⟨_, rfl⟩
  obtain ⟨y, hy⟩ : ∃ y, y = num8 (z1.take l1) := ⟨_, rfl⟩
  have HX := Lib.hid hx
  have HY := Lib.hid hy
  have HN : Hid (num8 (z0.take l0 ++ z1.take l1) = (x * 256 ^ l1 % 18446744073709551616 + y) % 18446744073709551616) := by
    show _ = _
    rw [num_append, h1.len_take, hx, hy]
  have HB : Hid (0 ≤ x ∧ x < 18446744073709551616) := by rw [hx]; exact num8_bd _
  clear hx hy
  have g0 : ∀ W, IsRow .u8 W a0 l0 c0 z0 → Calls Tryd.prog 8 #[.slice a0 l0 c0] W fun e w' => e = .returned (.int .u64 x) ∧ w' = W := fun W h => by
    have := get_src h (by omega)
    rw [show l0 - 8 = 0 by omega, List.drop_zero, ← HX.out] at this
    exact this
  have g1 : ∀ W, IsRow .u8 W a1 l1 c1 z1 → Calls Tryd.prog 8 #[.slice a1 l1 c1] W fun e w' => e = .returned (.int .u64 y) ∧ w' = W := fun W h => by
    have := get_src h (by omega)
    rw [show l1 - 8 = 0 by omega, List.drop_zero, ← HY.out] at this
    exact this
  have G0 := Lib.hid g0
  have G1 := Lib.hid g1
  clear g0 g1
  go_enter Tryd.func4, Tryd.ntmps4
  go_wp2_with (first
    | (go_at_call 5; refine (awake_any _ (by assumption)).mono ?_; rintro e w' ⟨rfl, hb⟩; have r0 := h0.on hb; have r1 := h1.on hb; clear h0 h1; obtain ⟨v1, w1, hr1, ho1, hg1⟩ := app_src (base := w'.heap.size) (n := 0) (v := .slice none 0 0) (xs := []) r0 (World.ownsRow_nil _ _ _ _) (Nat.le_refl _) (by omega); have hb1 : Below w'.heap.size w' w1 := grown_below (World.ownsRow_nil w' w'.heap.size 5 1) hg1 (Nat.le_refl _); obtain ⟨v2, w2, hr2, ho2, hg2⟩ := app_src (r1.on hb1) ho1 hb1.size (by omega); have hb2 : Below w'.heap.size w1 w2 := grown_below ho1 hg2 hb1.size; have hb12 := Bt hb (hb1.trans hb2); have R1 := Lib.hid hr1; have R2 := Lib.hid hr2; clear hr1 hr2; have r12 := r1.on (hb1.trans hb2); have G2 := Lib.hid (get_mine ho2 (by rw [List.nil_append]; intro z hz; rcases List.mem_append.1 hz with h | h; exact r0.bd z h; exact r1.bd z h) (by omega)); rw [List.nil_append] at G2; clear hb hb1 hb2 hg1 hg2 ho1 ho2 r1)
    | (go_at_call 8; refine (G0.out _ (by assumption)).mono ?_; clear G0; rintro e w' ⟨rfl, rfl⟩))
  go_loop [6, 7] (fun n i => ∃ k : Nat, k ≤ l1 ∧ i = .int .i64 k ∧ n = .int .u64 (x * 256 ^ k % 18446744073709551616)) (fun _ i => l1 - (intOf i).toNat)
  case atStart => exact ⟨0, Nat.zero_le _, rfl, by have := HB.out; simp; omega⟩
  case round =>
    obtain ⟨k, hk, rfl, rfl⟩ := hrel
    by_cases hlt : k < l1
    · go_wp2
      go_round
      case rel => exact ⟨k + 1, by omega, by go_num, pow_step x k⟩
      case measure => simp [intOf]; omega
    · have hkl : k = l1 := by omega
      subst hkl
      go_wp2_with (first
        | (at_builtin; refine wpList_append_run (by rfl) _ _ _ _ rfl rfl _ _ _ _ rfl rfl R1.out ?_; clear R1)
        | (at_builtin; refine wpList_append_run (by rfl) _ _ _ _ rfl rfl _ _ _ _ rfl rfl R2.out ?_; clear R2)
        | (go_at_call 8; refine G2.out.mono ?_; clear G2; rintro e w' ⟨rfl, rfl⟩)
        | (go_at_call 8; refine (G1.out _ (by assumption)).mono ?_; clear G1; rintro e w' ⟨rfl, rfl⟩))
      go_ret
      exact ⟨ret_bool (by rw [HN.out, IntKind.wrap_u64]; simp), by assumption⟩

set_option maxHeartbeats 2000000 in
theorem numPieces_out (a0 : Option Addr) (l0 c0 : Nat) (a1 : Option Addr) (l1 c1 : Nat) (w : World) (hl : 4 < l0 ∨ (l0 ≤ 4 ∧ 4 < l1)) (hL : Laid w) :
    Calls Tryd.prog 4 #[.slice a0 l0 c0, .slice a1 l1 c1] w fun e w' => e = .returned (.bool true) ∧ Below w.heap.size w w' := by
  rcases hl with h | ⟨h, h2⟩
  · have i0 : (4 : Int) < (l0 : Int) := by omega
    go_enter Tryd.func4, Tryd.ntmps4
    go_wp2_with (go_at_call 5; refine (awake_any _ (by assumption)).mono ?_; rintro e w' ⟨rfl, hb⟩)
    go_ret
    exact ⟨rfl, by assumption⟩
  · have i0 : (l0 : Int) ≤ 4 := by omega
    have i1 : (4 : Int) < (l1 : Int) := by omega
    go_enter Tryd.func4, Tryd.ntmps4
    go_wp2_with (go_at_call 5; refine (awake_any _ (by assumption)).mono ?_; rintro e w' ⟨rfl, hb⟩)
    go_ret
    exact ⟨rfl, by assumption⟩

theorem numPieces_walk (W : World) (a0 : Option Addr) (len0 cap0 : Nat) (z0 : List Int) (w0 : IsRow .u8 W a0 len0 cap0 z0) (a1 : Option Addr) (len1 cap1 : Nat) (z1 : List Int) (w1 : IsRow .u8 W a1 len1 cap1 z1) (hL : Laid W) :
    Calls Tryd.prog 4 #[.slice a0 len0 cap0, .slice a1 len1 cap1] W fun e W' => e = .returned (.bool true) ∧ Below W.heap.size W W' := by
  by_cases h : len0 ≤ 4 ∧ len1 ≤ 4
  · exact numPieces_in a0 len0 cap0 z0 a1 len1 cap1 z1 W w0 w1 h.1 h.2 hL
  · exact numPieces_out a0 len0 cap0 a1 len1 cap1 W (by omega) hL
end Go.Proofs.YtpoidlmemoocmabDoor
