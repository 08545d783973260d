/- NumBytes returns true for every number and every slice of bytes, and writes nothing that was there. Conditions: the listed variables hold what the program's text lays. -/
import Derived.Test.YtpoidlmemoocmaaDoorRefRow
import Derived.Test.YtpoidlmemoocmaaDoorRefPut
import Derived.Test.YtpoidlmemoocmaaDoorPut32
import Derived.RegionTactic
import Derived.Deep.RegionWith
namespace Go.Proofs.YtpoidlmemoocmaaDoor
open Go.RowKit

theorem be_mod (n size m : Nat) (h : m = 256 ^ size) : be (n % m) size = be n size := by
  subst h
  unfold be
  apply List.map_congr_left
  intro i hi
  rw [List.mem_range] at hi
  have e : 256 ^ size = 2 ^ (8 * (size - 1 - i)) * (256 * 2 ^ (8 * i)) := by
    rw [show 256 = 2 ^ 8 by decide, ← Nat.pow_mul, ← Nat.pow_add, ← Nat.pow_add]
    congr 1
    omega
  have h1 : n % 256 ^ size / 2 ^ (8 * (size - 1 - i)) % 256 = n / 2 ^ (8 * (size - 1 - i)) % 256 := by
    rw [e, Nat.mod_mul_right_div_self, Nat.mod_mul_right_mod]
  have := congrArg (Nat.cast : Nat → Int) h1
  simpa using this

theorem conv_later {w : World} {base g n cap : Nat} {zs : List Int} (ho : w.ownsRow base 5 1 (.slice (some ⟨g, 0, none⟩) n cap) n (zs.map (Value.int .u8))) (hz : ∀ z ∈ zs, 0 ≤ z ∧ z ≤ 255) :
    ∀ W, Below w.heap.size w W → (convert 30 9 (.slice (some ⟨g, 0, none⟩) n cap)).run Tryd.prog W = .ok (.string (strOf zs)) W := by
  intro W hb
  refine conv_own (base := base) ⟨ho.1, ?_⟩ hz
  rcases ho.2 with h | ⟨g', cap', cur, hv, hg, hh, hr⟩
  · exact .inl h
  · refine .inr ⟨g', cap', cur, hv, hg, ?_, hr⟩
    rw [hb.block g' (lt_of_block hh)]
    exact hh

/-- What a call that makes bytes leaves: where they lie (a letter), what they are as a string, now and later. -/
def Made (w w' : World) (e : Ending) (size : Nat) (zs : List Int) : Prop :=
  ∃ g, e = .returned (.slice (some ⟨g, 0, none⟩) size size) ∧ (∀ W, Below w'.heap.size w' W → (convert 30 9 (.slice (some ⟨g, 0, none⟩) size size)).run Tryd.prog W = .ok (.string (strOf zs)) W) ∧ Below w.heap.size w w'
theorem made {w w' : World} {e : Ending} {size n : Nat} (h : e = .returned (.slice (some ⟨w.heap.size, 0, none⟩) size size) ∧
      w'.ownsRow w.heap.size 5 1 (.slice (some ⟨w.heap.size, 0, none⟩) size size) size ((be n size).map (Value.int .u8)) ∧ Below w.heap.size w w') : Made w w' e size (be n size) :=
  ⟨_, h.1, conv_later h.2.1 (be_bd _ _), h.2.2⟩
theorem m64 (n : Nat) (w : World) : Calls Tryd.prog 16 #[.int .u64 n] w fun e w' => Made w w' e 8 (be n 8) := (put64_any n w).mono fun _ _ h => made h
theorem m32 (n : Nat) (w : World) : Calls Tryd.prog 18 #[.int .u32 ((n : Int) % 4294967296)] w fun e w' => Made w w' e 4 (be n 4) := by
  have := (put32_any (n % 4294967296) (by omega) w).mono fun _ _ h => made h
  rw [be_mod n 4 4294967296 (by decide)] at this
  exact this
theorem m16 (n : Nat) (w : World) : Calls Tryd.prog 19 #[.int .u16 ((n : Int) % 65536)] w fun e w' => Made w w' e 2 (be n 2) := by
  have := (put16_any (n % 65536) (by omega) w).mono fun _ _ h => made h
  rw [be_mod n 2 65536 (by decide)] at this
  exact this
theorem r8 (n : Nat) (hn : n < 18446744073709551616) (w : World) : Calls Tryd.prog 17 #[.int .u64 n, .int .i64 8] w fun e w' => Made w w' e 8 (be n 8) := (refPut_any n hn 8 (by decide) w).mono fun _ _ h => made h
theorem r4 (n : Nat) (hn : n < 18446744073709551616) (w : World) : Calls Tryd.prog 17 #[.int .u64 n, .int .i64 4] w fun e w' => Made w w' e 4 (be n 4) := (refPut_any n hn 4 (by decide) w).mono fun _ _ h => made h
theorem r2 (n : Nat) (hn : n < 18446744073709551616) (w : World) : Calls Tryd.prog 17 #[.int .u64 n, .int .i64 2] w fun e w' => Made w w' e 2 (be n 2) := (refPut_any n hn 2 (by decide) w).mono fun _ _ h => made h

theorem stage_cut (w : World) (G : Nat → Nat → World → Prop) {goal : Prop} (h2 : ∀ (g1 g2 : Nat) (W : World), Below w.heap.size w W → G g1 g2 W) (h1 : (∀ (g1 g2 : Nat) (W : World), Below w.heap.size w W → G g1 g2 W) → goal) : goal := h1 h2

set_option maxRecDepth 100000 in
set_option maxHeartbeats 8000000 in
theorem numBytes_in (n : Nat) (hn : n < 18446744073709551616) (a : Option Addr) (l c : Nat) (zs : List Int) (w : World) (hr : IsRow .u8 w a l c zs) (hl : l ≤ 1000) (hL : Laid w) :
    Calls Tryd.prog 4 #[.int .u64 n, .slice a l c] w fun e w' => e = .returned (.bool true) ∧ Below w.heap.size w w' := by
  have hli : (l : Int) ≤ 1000 := by omega
  go_enter Tryd.func4, Tryd.ntmps4
  go_wp2_with (go_at_call 9; refine (awake_any _ (by assumption)).mono ?_; rintro e w0 ⟨rfl, hb0⟩)
  have hB := hb0.drew
  have HR := Lib.hid (fun (W : World) (h : Below w.heap.size w W) => hr.on h)
  clear hr hb0
  refine wp_region_any (by kernel_rfl) ?_
  change wpAny _ _ _ _ _ _ _ (World.drew _)
  refine stage_cut w ?G2 ?p2 ?m1
  case m1 =>
    intro stage2
    refine wpAny_take (i := 0) (v := ?_) rfl (by kernel_rfl) (by kernel_rfl) (by kernel_rfl) (fun _ _ _ h => h) (Or.inl ⟨by rfl, ?_⟩) ?_
    rotate_left 1
    · intro w
      first
        | (go_simp; done)
        | (go_simp; with_reducible rfl)
    refine wpAny_take (i := 1) (v := ?_) rfl (by kernel_rfl) (by kernel_rfl) (by kernel_rfl) (fun _ _ _ h => h) (Or.inl ⟨by rfl, ?_⟩) ?_
    rotate_left 1
    · intro w
      first
        | (go_simp; done)
        | (go_simp; with_reducible rfl)
    refine wpAny_take (i := 2) (v := ?_) rfl (by kernel_rfl) (by kernel_rfl) (by kernel_rfl) (fun _ _ _ h => h) (Or.inl ⟨by rfl, ?_⟩) ?_
    rotate_left 1
    · intro w
      first
        | (go_simp; done)
        | (go_simp; with_reducible rfl)
    refine wpAny_take (i := 5) (v := ?_) rfl (by kernel_rfl) (by kernel_rfl) (by kernel_rfl) (fun _ _ _ h => h) (Or.inl ⟨by rfl, ?_⟩) ?_
    rotate_left 1
    · intro w
      first
        | (go_simp; done)
        | (go_simp; with_reducible rfl)
    refine wpAny_ready (rs := [3]) (by kernel_rfl) (by simp) ?_
    refine AllReady.cons rfl (fun K hK => ?_) ?_
    rotate_left 1
    · exact AllReady.nil
    go_simp
    go_wp2_with (go_at_call 16; refine (m64 n _).mono ?_; rintro e wA ⟨ga, rfl, hcvA, hbA⟩; have hBA : Below w.heap.size w wA := Bt (by assumption) hbA; have hselfA := Below.refl wA.heap.size wA)
    refine wpAny_ready (rs := [4, 6]) (by kernel_rfl) (by simp) ?_
    refine AllReady.cons rfl (fun K hK => ?_) ?_
    · go_simp
      refine hK _ _ ?_
      clear hK K
      refine wpAny_ready (rs := [6]) (by kernel_rfl) (by simp) ?_
      refine AllReady.cons rfl (fun K hK => ?_) ?_
      rotate_left 1
      · exact AllReady.nil
      go_simp
      go_wp2_with (go_at_call 17; refine (r8 n hn _).mono ?_; rintro e wB ⟨gb, rfl, hcvB, hb⟩; have hBB : Below w.heap.size w wB := Bt hBA hb; have hselfB := Below.refl wB.heap.size wB)
      refine wpAny_ready (rs := [7]) (by kernel_rfl) (by simp) ?_
      refine AllReady.cons rfl (fun K hK => ?_) ?_
      rotate_left 1
      · exact AllReady.nil
      go_simp
      refine hK _ _ ?_
      clear hK K
      refine wpAny_take (i := 8) (v := ?_) rfl (by kernel_rfl) (by kernel_rfl) (by kernel_rfl) (fun _ _ _ h => h) (Or.inl ⟨by rfl, ?_⟩) ?_
      rotate_left 1
      · intro w
        first
          | (go_simp; done)
          | (go_simp; with_reducible rfl)
      refine wpAny_take (i := 9) (v := ?_) rfl (by kernel_rfl) (by kernel_rfl) (by kernel_rfl) (fun _ _ _ h => h) (Or.inl ⟨by rfl, ?_⟩) ?_
      rotate_left 1
      · intro w
        first
          | (go_simp; done)
          | (go_simp; with_reducible rfl)
      refine wpAny_take (i := 10) (v := ?_) rfl (by kernel_rfl) (by kernel_rfl) (by kernel_rfl) (fun _ _ _ h => h) (Or.inl ⟨by rfl, ?_⟩) ?_
      rotate_left 1
      · intro w
        first
          | (go_simp; done)
          | (go_simp; with_reducible rfl)
      exact stage2 ga gb wB hBB
    refine AllReady.cons rfl (fun K hK => ?_) ?_
    rotate_left 1
    · exact AllReady.nil
    go_simp
    go_wp2_with (go_at_call 17; refine (r8 n hn _).mono ?_; rintro e wB ⟨gb, rfl, hcvB, hb⟩; have hBB : Below w.heap.size w wB := Bt hBA hb; have hselfB := Below.refl wB.heap.size wB)
    refine wpAny_ready (rs := [4, 7]) (by kernel_rfl) (by simp) ?_
    refine AllReady.cons rfl (fun K hK => ?_) ?_
    · go_simp
      refine hK _ _ ?_
      clear hK K
      refine wpAny_ready (rs := [7]) (by kernel_rfl) (by simp) ?_
      refine AllReady.cons rfl (fun K hK => ?_) ?_
      rotate_left 1
      · exact AllReady.nil
      go_simp
      refine hK _ _ ?_
      clear hK K
      refine wpAny_take (i := 8) (v := ?_) rfl (by kernel_rfl) (by kernel_rfl) (by kernel_rfl) (fun _ _ _ h => h) (Or.inl ⟨by rfl, ?_⟩) ?_
      rotate_left 1
      · intro w
        first
          | (go_simp; done)
          | (go_simp; with_reducible rfl)
      refine wpAny_take (i := 9) (v := ?_) rfl (by kernel_rfl) (by kernel_rfl) (by kernel_rfl) (fun _ _ _ h => h) (Or.inl ⟨by rfl, ?_⟩) ?_
      rotate_left 1
      · intro w
        first
          | (go_simp; done)
          | (go_simp; with_reducible rfl)
      refine wpAny_take (i := 10) (v := ?_) rfl (by kernel_rfl) (by kernel_rfl) (by kernel_rfl) (fun _ _ _ h => h) (Or.inl ⟨by rfl, ?_⟩) ?_
      rotate_left 1
      · intro w
        first
          | (go_simp; done)
          | (go_simp; with_reducible rfl)
      exact stage2 ga gb wB hBB
    refine AllReady.cons rfl (fun K hK => ?_) ?_
    rotate_left 1
    · exact AllReady.nil
    go_simp
    refine hK _ _ ?_
    clear hK K
    refine wpAny_ready (rs := [4]) (by kernel_rfl) (by simp) ?_
    refine AllReady.cons rfl (fun K hK => ?_) ?_
    rotate_left 1
    · exact AllReady.nil
    go_simp
    refine hK _ _ ?_
    clear hK K
    refine wpAny_take (i := 8) (v := ?_) rfl (by kernel_rfl) (by kernel_rfl) (by kernel_rfl) (fun _ _ _ h => h) (Or.inl ⟨by rfl, ?_⟩) ?_
    rotate_left 1
    · intro w
      first
        | (go_simp; done)
        | (go_simp; with_reducible rfl)
    refine wpAny_take (i := 9) (v := ?_) rfl (by kernel_rfl) (by kernel_rfl) (by kernel_rfl) (fun _ _ _ h => h) (Or.inl ⟨by rfl, ?_⟩) ?_
    rotate_left 1
    · intro w
      first
        | (go_simp; done)
        | (go_simp; with_reducible rfl)
    refine wpAny_take (i := 10) (v := ?_) rfl (by kernel_rfl) (by kernel_rfl) (by kernel_rfl) (fun _ _ _ h => h) (Or.inl ⟨by rfl, ?_⟩) ?_
    rotate_left 1
    · intro w
      first
        | (go_simp; done)
        | (go_simp; with_reducible rfl)
    exact stage2 ga gb wB hBB
  case p2 =>
    intro g1 g2 W1 hB1
    clear hB
    refine stage_cut w ?G3 ?p3 ?m2
    case m2 =>
      intro stage3
      refine wpAny_take (i := 11) (v := ?_) rfl (by kernel_rfl) (by kernel_rfl) (by kernel_rfl) (fun _ _ _ h => h) (Or.inl ⟨by rfl, ?_⟩) ?_
      rotate_left 1
      · intro w
        first
          | (go_simp; done)
          | (go_simp; with_reducible rfl)
      refine wpAny_take (i := 12) (v := ?_) rfl (by kernel_rfl) (by kernel_rfl) (by kernel_rfl) (fun _ _ _ h => h) (Or.inl ⟨by rfl, ?_⟩) ?_
      rotate_left 1
      · intro w
        first
          | (go_simp; done)
          | (go_simp; with_reducible rfl)
      refine wpAny_take (i := 15) (v := ?_) rfl (by kernel_rfl) (by kernel_rfl) (by kernel_rfl) (fun _ _ _ h => h) (Or.inl ⟨by rfl, ?_⟩) ?_
      rotate_left 1
      · intro w
        first
          | (go_simp; done)
          | (go_simp; with_reducible rfl)
      refine wpAny_ready (rs := [13]) (by kernel_rfl) (by simp) ?_
      refine AllReady.cons rfl (fun K hK => ?_) ?_
      rotate_left 1
      · exact AllReady.nil
      go_simp
      go_wp2_with (go_at_call 18; refine (m32 n _).mono ?_; rintro e wA ⟨ga, rfl, hcvA, hbA⟩; have hBA : Below w.heap.size w wA := Bt (by assumption) hbA; have hselfA := Below.refl wA.heap.size wA)
      refine wpAny_ready (rs := [14, 16]) (by kernel_rfl) (by simp) ?_
      refine AllReady.cons rfl (fun K hK => ?_) ?_
      · go_simp
        refine hK _ _ ?_
        clear hK K
        refine wpAny_ready (rs := [16]) (by kernel_rfl) (by simp) ?_
        refine AllReady.cons rfl (fun K hK => ?_) ?_
        rotate_left 1
        · exact AllReady.nil
        go_simp
        go_wp2_with (go_at_call 17; refine (r4 n hn _).mono ?_; rintro e wB ⟨gb, rfl, hcvB, hb⟩; have hBB : Below w.heap.size w wB := Bt hBA hb; have hselfB := Below.refl wB.heap.size wB)
        refine wpAny_ready (rs := [17]) (by kernel_rfl) (by simp) ?_
        refine AllReady.cons rfl (fun K hK => ?_) ?_
        rotate_left 1
        · exact AllReady.nil
        go_simp
        refine hK _ _ ?_
        clear hK K
        refine wpAny_take (i := 18) (v := ?_) rfl (by kernel_rfl) (by kernel_rfl) (by kernel_rfl) (fun _ _ _ h => h) (Or.inl ⟨by rfl, ?_⟩) ?_
        rotate_left 1
        · intro w
          first
            | (go_simp; done)
            | (go_simp; with_reducible rfl)
        refine wpAny_take (i := 19) (v := ?_) rfl (by kernel_rfl) (by kernel_rfl) (by kernel_rfl) (fun _ _ _ h => h) (Or.inl ⟨by rfl, ?_⟩) ?_
        rotate_left 1
        · intro w
          first
            | (go_simp; done)
            | (go_simp; with_reducible rfl)
        refine wpAny_take (i := 20) (v := ?_) rfl (by kernel_rfl) (by kernel_rfl) (by kernel_rfl) (fun _ _ _ h => h) (Or.inl ⟨by rfl, ?_⟩) ?_
        rotate_left 1
        · intro w
          first
            | (go_simp; done)
            | (go_simp; with_reducible rfl)
        exact stage3 ga gb wB hBB
      refine AllReady.cons rfl (fun K hK => ?_) ?_
      rotate_left 1
      · exact AllReady.nil
      go_simp
      go_wp2_with (go_at_call 17; refine (r4 n hn _).mono ?_; rintro e wB ⟨gb, rfl, hcvB, hb⟩; have hBB : Below w.heap.size w wB := Bt hBA hb; have hselfB := Below.refl wB.heap.size wB)
      refine wpAny_ready (rs := [14, 17]) (by kernel_rfl) (by simp) ?_
      refine AllReady.cons rfl (fun K hK => ?_) ?_
      · go_simp
        refine hK _ _ ?_
        clear hK K
        refine wpAny_ready (rs := [17]) (by kernel_rfl) (by simp) ?_
        refine AllReady.cons rfl (fun K hK => ?_) ?_
        rotate_left 1
        · exact AllReady.nil
        go_simp
        refine hK _ _ ?_
        clear hK K
        refine wpAny_take (i := 18) (v := ?_) rfl (by kernel_rfl) (by kernel_rfl) (by kernel_rfl) (fun _ _ _ h => h) (Or.inl ⟨by rfl, ?_⟩) ?_
        rotate_left 1
        · intro w
          first
            | (go_simp; done)
            | (go_simp; with_reducible rfl)
        refine wpAny_take (i := 19) (v := ?_) rfl (by kernel_rfl) (by kernel_rfl) (by kernel_rfl) (fun _ _ _ h => h) (Or.inl ⟨by rfl, ?_⟩) ?_
        rotate_left 1
        · intro w
          first
            | (go_simp; done)
            | (go_simp; with_reducible rfl)
        refine wpAny_take (i := 20) (v := ?_) rfl (by kernel_rfl) (by kernel_rfl) (by kernel_rfl) (fun _ _ _ h => h) (Or.inl ⟨by rfl, ?_⟩) ?_
        rotate_left 1
        · intro w
          first
            | (go_simp; done)
            | (go_simp; with_reducible rfl)
        exact stage3 ga gb wB hBB
      refine AllReady.cons rfl (fun K hK => ?_) ?_
      rotate_left 1
      · exact AllReady.nil
      go_simp
      refine hK _ _ ?_
      clear hK K
      refine wpAny_ready (rs := [14]) (by kernel_rfl) (by simp) ?_
      refine AllReady.cons rfl (fun K hK => ?_) ?_
      rotate_left 1
      · exact AllReady.nil
      go_simp
      refine hK _ _ ?_
      clear hK K
      refine wpAny_take (i := 18) (v := ?_) rfl (by kernel_rfl) (by kernel_rfl) (by kernel_rfl) (fun _ _ _ h => h) (Or.inl ⟨by rfl, ?_⟩) ?_
      rotate_left 1
      · intro w
        first
          | (go_simp; done)
          | (go_simp; with_reducible rfl)
      refine wpAny_take (i := 19) (v := ?_) rfl (by kernel_rfl) (by kernel_rfl) (by kernel_rfl) (fun _ _ _ h => h) (Or.inl ⟨by rfl, ?_⟩) ?_
      rotate_left 1
      · intro w
        first
          | (go_simp; done)
          | (go_simp; with_reducible rfl)
      refine wpAny_take (i := 20) (v := ?_) rfl (by kernel_rfl) (by kernel_rfl) (by kernel_rfl) (fun _ _ _ h => h) (Or.inl ⟨by rfl, ?_⟩) ?_
      rotate_left 1
      · intro w
        first
          | (go_simp; done)
          | (go_simp; with_reducible rfl)
      exact stage3 ga gb wB hBB
    case p3 =>
      intro g3 g4 W2 hB2
      clear hB1
      refine stage_cut w ?G4 ?p4 ?m3
      case m3 =>
        intro stage4
        refine wpAny_take (i := 21) (v := ?_) rfl (by kernel_rfl) (by kernel_rfl) (by kernel_rfl) (fun _ _ _ h => h) (Or.inl ⟨by rfl, ?_⟩) ?_
        rotate_left 1
        · intro w
          first
            | (go_simp; done)
            | (go_simp; with_reducible rfl)
        refine wpAny_take (i := 22) (v := ?_) rfl (by kernel_rfl) (by kernel_rfl) (by kernel_rfl) (fun _ _ _ h => h) (Or.inl ⟨by rfl, ?_⟩) ?_
        rotate_left 1
        · intro w
          first
            | (go_simp; done)
            | (go_simp; with_reducible rfl)
        refine wpAny_take (i := 25) (v := ?_) rfl (by kernel_rfl) (by kernel_rfl) (by kernel_rfl) (fun _ _ _ h => h) (Or.inl ⟨by rfl, ?_⟩) ?_
        rotate_left 1
        · intro w
          first
            | (go_simp; done)
            | (go_simp; with_reducible rfl)
        refine wpAny_ready (rs := [23]) (by kernel_rfl) (by simp) ?_
        refine AllReady.cons rfl (fun K hK => ?_) ?_
        rotate_left 1
        · exact AllReady.nil
        go_simp
        go_wp2_with (go_at_call 19; refine (m16 n _).mono ?_; rintro e wA ⟨ga, rfl, hcvA, hbA⟩; have hBA : Below w.heap.size w wA := Bt (by assumption) hbA; have hselfA := Below.refl wA.heap.size wA)
        refine wpAny_ready (rs := [24, 26]) (by kernel_rfl) (by simp) ?_
        refine AllReady.cons rfl (fun K hK => ?_) ?_
        · go_simp
          refine hK _ _ ?_
          clear hK K
          refine wpAny_ready (rs := [26]) (by kernel_rfl) (by simp) ?_
          refine AllReady.cons rfl (fun K hK => ?_) ?_
          rotate_left 1
          · exact AllReady.nil
          go_simp
          go_wp2_with (go_at_call 17; refine (r2 n hn _).mono ?_; rintro e wB ⟨gb, rfl, hcvB, hb⟩; have hBB : Below w.heap.size w wB := Bt hBA hb; have hselfB := Below.refl wB.heap.size wB)
          refine wpAny_ready (rs := [27]) (by kernel_rfl) (by simp) ?_
          refine AllReady.cons rfl (fun K hK => ?_) ?_
          rotate_left 1
          · exact AllReady.nil
          go_simp
          refine hK _ _ ?_
          clear hK K
          refine wpAny_take (i := 28) (v := ?_) rfl (by kernel_rfl) (by kernel_rfl) (by kernel_rfl) (fun _ _ _ h => h) (Or.inl ⟨by rfl, ?_⟩) ?_
          rotate_left 1
          · intro w
            first
              | (go_simp; done)
              | (go_simp; with_reducible rfl)
          refine wpAny_take (i := 29) (v := ?_) rfl (by kernel_rfl) (by kernel_rfl) (by kernel_rfl) (fun _ _ _ h => h) (Or.inl ⟨by rfl, ?_⟩) ?_
          rotate_left 1
          · intro w
            first
              | (go_simp; done)
              | (go_simp; with_reducible rfl)
          refine wpAny_take (i := 30) (v := ?_) rfl (by kernel_rfl) (by kernel_rfl) (by kernel_rfl) (fun _ _ _ h => h) (Or.inl ⟨by rfl, ?_⟩) ?_
          rotate_left 1
          · intro w
            first
              | (go_simp; done)
              | (go_simp; with_reducible rfl)
          exact stage4 ga gb wB hBB
        refine AllReady.cons rfl (fun K hK => ?_) ?_
        rotate_left 1
        · exact AllReady.nil
        go_simp
        go_wp2_with (go_at_call 17; refine (r2 n hn _).mono ?_; rintro e wB ⟨gb, rfl, hcvB, hb⟩; have hBB : Below w.heap.size w wB := Bt hBA hb; have hselfB := Below.refl wB.heap.size wB)
        refine wpAny_ready (rs := [24, 27]) (by kernel_rfl) (by simp) ?_
        refine AllReady.cons rfl (fun K hK => ?_) ?_
        · go_simp
          refine hK _ _ ?_
          clear hK K
          refine wpAny_ready (rs := [27]) (by kernel_rfl) (by simp) ?_
          refine AllReady.cons rfl (fun K hK => ?_) ?_
          rotate_left 1
          · exact AllReady.nil
          go_simp
          refine hK _ _ ?_
          clear hK K
          refine wpAny_take (i := 28) (v := ?_) rfl (by kernel_rfl) (by kernel_rfl) (by kernel_rfl) (fun _ _ _ h => h) (Or.inl ⟨by rfl, ?_⟩) ?_
          rotate_left 1
          · intro w
            first
              | (go_simp; done)
              | (go_simp; with_reducible rfl)
          refine wpAny_take (i := 29) (v := ?_) rfl (by kernel_rfl) (by kernel_rfl) (by kernel_rfl) (fun _ _ _ h => h) (Or.inl ⟨by rfl, ?_⟩) ?_
          rotate_left 1
          · intro w
            first
              | (go_simp; done)
              | (go_simp; with_reducible rfl)
          refine wpAny_take (i := 30) (v := ?_) rfl (by kernel_rfl) (by kernel_rfl) (by kernel_rfl) (fun _ _ _ h => h) (Or.inl ⟨by rfl, ?_⟩) ?_
          rotate_left 1
          · intro w
            first
              | (go_simp; done)
              | (go_simp; with_reducible rfl)
          exact stage4 ga gb wB hBB
        refine AllReady.cons rfl (fun K hK => ?_) ?_
        rotate_left 1
        · exact AllReady.nil
        go_simp
        refine hK _ _ ?_
        clear hK K
        refine wpAny_ready (rs := [24]) (by kernel_rfl) (by simp) ?_
        refine AllReady.cons rfl (fun K hK => ?_) ?_
        rotate_left 1
        · exact AllReady.nil
        go_simp
        refine hK _ _ ?_
        clear hK K
        refine wpAny_take (i := 28) (v := ?_) rfl (by kernel_rfl) (by kernel_rfl) (by kernel_rfl) (fun _ _ _ h => h) (Or.inl ⟨by rfl, ?_⟩) ?_
        rotate_left 1
        · intro w
          first
            | (go_simp; done)
            | (go_simp; with_reducible rfl)
        refine wpAny_take (i := 29) (v := ?_) rfl (by kernel_rfl) (by kernel_rfl) (by kernel_rfl) (fun _ _ _ h => h) (Or.inl ⟨by rfl, ?_⟩) ?_
        rotate_left 1
        · intro w
          first
            | (go_simp; done)
            | (go_simp; with_reducible rfl)
        refine wpAny_take (i := 30) (v := ?_) rfl (by kernel_rfl) (by kernel_rfl) (by kernel_rfl) (fun _ _ _ h => h) (Or.inl ⟨by rfl, ?_⟩) ?_
        rotate_left 1
        · intro w
          first
            | (go_simp; done)
            | (go_simp; with_reducible rfl)
        exact stage4 ga gb wB hBB
      case p4 =>
        intro g5 g6 W3 hB3
        clear hB2
        refine wpAny_take (i := 31) (v := ?_) rfl (by kernel_rfl) (by kernel_rfl) (by kernel_rfl) (fun _ _ _ h => h) (Or.inl ⟨by rfl, ?_⟩) ?_
        rotate_left 1
        · intro w
          first
            | (go_simp; done)
            | (go_simp; with_reducible rfl)
        refine wpAny_take (i := 33) (v := ?_) rfl (by kernel_rfl) (by kernel_rfl) (by kernel_rfl) (fun _ _ _ h => h) (Or.inl ⟨by rfl, ?_⟩) ?_
        rotate_left 1
        · intro w
          first
            | (go_simp; done)
            | (go_simp; with_reducible rfl)
        refine wpAny_ready (rs := [32]) (by kernel_rfl) (by simp) ?_
        refine AllReady.cons rfl (fun K hK => ?_) ?_
        rotate_left 1
        · exact AllReady.nil
        go_simp
        go_wp2_with (go_at_call 20; refine (get_src (HR.out _ (by assumption)) (by omega)).mono ?_; rintro e w' ⟨rfl, rfl⟩)
        refine wpAny_ready (rs := [34]) (by kernel_rfl) (by simp) ?_
        refine AllReady.cons rfl (fun K hK => ?_) ?_
        rotate_left 1
        · exact AllReady.nil
        go_simp
        go_wp2_with (go_at_call 21; refine (refGet_src (HR.out _ (by assumption)) (by omega)).mono ?_; rintro e w' ⟨rfl, rfl⟩)
        refine wpAny_take (i := 35) (v := ?_) rfl (by kernel_rfl) (by kernel_rfl) (by kernel_rfl) (fun _ _ _ h => h) (Or.inl ⟨by rfl, ?_⟩) ?_
        rotate_left 1
        · intro w
          first
            | (go_simp; done)
            | (go_simp; with_reducible rfl)
        refine wpAny_take (i := 36) (v := ?_) rfl (by kernel_rfl) (by kernel_rfl) (by kernel_rfl) (fun _ _ _ h => h) (Or.inl ⟨by rfl, ?_⟩) ?_
        rotate_left 1
        · intro w
          first
            | (go_simp; done)
            | (go_simp; with_reducible rfl)
        refine wpAny_take (i := 37) (v := ?_) rfl (by kernel_rfl) (by kernel_rfl) (by kernel_rfl) (fun _ _ _ h => h) (Or.inl ⟨by rfl, ?_⟩) ?_
        rotate_left 1
        · intro w
          first
            | (go_simp; done)
            | (go_simp; with_reducible rfl)
        refine wpAny_done (by kernel_rfl) ?_ _
        go_wp2
        go_ret
        exact ⟨rfl, by assumption⟩

set_option maxHeartbeats 1000000 in
theorem numBytes_out (n : Nat) (a : Option Addr) (l c : Nat) (w : World) (hl : 1000 < l) (hL : Laid w) :
    Calls Tryd.prog 4 #[.int .u64 n, .slice a l c] w fun e w' => e = .returned (.bool true) ∧ Below w.heap.size w w' := by
  have hli : (1000 : Int) < (l : Int) := by omega
  go_enter Tryd.func4, Tryd.ntmps4
  go_wp2_with (go_at_call 9; refine (awake_any _ (by assumption)).mono ?_; rintro e w0 ⟨rfl, hb0⟩)
  go_ret
  exact ⟨rfl, by assumption⟩

theorem numBytes_walk (W : World) (a0 : Int) (w0 : (Lit.int .u64 a0).wf = true) (a1 : Option Addr) (len1 cap1 : Nat) (z1 : List Int) (w1 : IsRow .u8 W a1 len1 cap1 z1) (hL : Laid W) :
    Calls Tryd.prog 4 #[.int .u64 a0, .slice a1 len1 cap1] W fun e W' => e = .returned (.bool true) ∧ Below W.heap.size W W' := by
  have e1 : IntKind.u64.min = 0 := rfl
  have e2 : IntKind.u64.max = 18446744073709551615 := rfl
  simp [Lit.wf, e1, e2] at w0
  obtain ⟨n, rfl⟩ : ∃ n : Nat, a0 = n := ⟨a0.toNat, by omega⟩
  by_cases h : len1 ≤ 1000
  · exact numBytes_in n (by omega) a1 len1 cap1 z1 W w1 h hL
  · exact numBytes_out n a1 len1 cap1 W (by omega) hL
end Go.Proofs.YtpoidlmemoocmaaDoor
