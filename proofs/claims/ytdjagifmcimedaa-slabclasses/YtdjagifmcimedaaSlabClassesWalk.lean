/- SlabClasses returns true for every size and every class, and writes nothing that was there. Conditions: the contracts of package slab. -/
import Derived.Test.YtdjagifmcimedaaSlabRefC
import Derived.Test.YtdjagifmcimedaaSlabLib
namespace Go.Proofs.Ytdjagifmcimedaa
open Go.RowKit
variable {Sl : World → Nat → (Nat → Prop) → Sb → Prop}

theorem cls_fits (size : Int) (h : clsErr size = 0) : size ≤ bytesC (clsOf size) ∧ (clsOf size = 0 ∨ (1 ≤ clsOf size ∧ bytesC ((clsOf size : Int) - 1) < size)) := by
  unfold clsErr at h
  unfold clsOf
  split at h
  · repeat' split
    all_goals simp [bytesC]
    all_goals omega
  · omega
theorem cls_err (size : Int) : clsErr size = 0 ∨ clsErr size = 4 := by
  unfold clsErr
  split
  · exact .inl rfl
  · exact .inr rfl
section
variable {w0 w : World}
theorem class_is (L : SlabLib Sl) (size : Int) (hz : I64 size) (c : Nat) (er : Int) (hc : clsOf size = c) (he : clsErr size = er) (hB : Below w0.heap.size w0 w) : Calls Try.prog 9 #[.int .i64 size] w fun e w' => e = .returned (.tuple #[.int .i64 c, .int .i64 er]) ∧ Below w0.heap.size w0 w' :=
  (L.cls size hz w).mono fun _ _ ⟨h1, h2⟩ => ⟨by rw [h1, hc, he], gr_below hB h2 (fun _ e => by cases e)⟩
theorem rclass_is (size : Int) (c : Nat) (er : Int) (hc : clsOf size = c) (he : clsErr size = er) (w : World) : Calls Try.prog 10 #[.int .i64 size] w fun e w' => e = .returned (.tuple #[.int .i64 c, .int .i64 er]) ∧ w = w' :=
  (rclass_any size w).mono fun _ _ ⟨h1, h2⟩ => ⟨by rw [h1, hc, he], h2⟩
theorem bytes_is (L : SlabLib Sl) (k : Int) (hk : I64 k) (n : Int) (hn : bytesC k = n) (hB : Below w0.heap.size w0 w) : Calls Try.prog 11 #[.int .i64 k] w fun e w' => e = .returned (.int .i64 n) ∧ Below w0.heap.size w0 w' :=
  (L.bytes k hk w).mono fun _ _ ⟨h1, h2⟩ => ⟨by rw [h1, hn], gr_below hB h2 (fun _ e => by cases e)⟩
theorem rbytes_is (k : Int) (n : Int) (hn : bytesC k = n) (w : World) : Calls Try.prog 12 #[.int .i64 k] w fun e w' => e = .returned (.int .i64 n) ∧ w = w' :=
  (rbytes_any k w).mono fun _ _ ⟨h1, h2⟩ => ⟨by rw [h1, hn], h2⟩
end
set_option maxHeartbeats 2000000 in
theorem slabClasses_walk (L : SlabLib Sl) (a0 : Int) (w0 : (Lit.int .i64 a0).wf = true) (a1 : Int) (w1 : (Lit.int .i64 a1).wf = true) (W : World) :
    Calls Try.prog 3 #[.int .i64 a0, .int .i64 a1] W fun e W' => e = .returned (.bool true) ∧ Below W.heap.size W W' := by
  have hB : Below W.heap.size W W := Below.refl _ _
  have hz : I64 a0 := i64_wf w0
  have hk : I64 a1 := i64_wf w1
  clear w0 w1
  have hc6 := cls_lt a0
  have hf := cls_fits a0
  have he := cls_err a0
  obtain ⟨c, hc⟩ : ∃ c, clsOf a0 = c := ⟨_, rfl⟩
  obtain ⟨er, hr⟩ : ∃ er, clsErr a0 = er := ⟨_, rfl⟩
  obtain ⟨n1, h1⟩ : ∃ n, bytesC a1 = n := ⟨_, rfl⟩
  obtain ⟨n2, h2⟩ : ∃ n, bytesC (c : Int) = n := ⟨_, rfl⟩
  obtain ⟨n3, h3⟩ : ∃ n, bytesC ((c : Int) - 1) = n := ⟨_, rfl⟩
  rw [hc, hr, h2, h3] at hf
  rw [hr] at he
  rw [hc] at hc6
  have HC := hide hc
  have HE := hide hr
  have H1 := hide h1
  have H2 := hide h2
  have H3 := hide h3
  have hcI : I64 (c : Int) := ⟨by omega, by omega⟩
  have hcJ : I64 ((c : Int) - 1) := ⟨by omega, by omega⟩
  clear hc hr h1 h2 h3
  rcases he with rfl | rfl
  · obtain ⟨f1, f2⟩ := hf rfl
    clear hf
    rcases f2 with rfl | ⟨f2, f3⟩
    · go_enter Try.func3, Try.ntmps3
      go_wp2_with (first
      | (go_at_call 8; refine (awake_any L _).mono ?_; rintro e w1 ⟨rfl, hb⟩; replace hB := Bt hB hb; clear hb)
      | (go_at_call 9; refine (class_is L a0 hz _ _ HC.out HE.out hB).mono ?_; clear hB; rintro e w2 ⟨rfl, hB⟩)
      | (go_at_call 10; refine (rclass_is a0 _ _ HC.out HE.out _).mono ?_; clear HC; rintro e w3 ⟨rfl, rfl⟩)
      | (go_at_call 11; have t := H1; clear t; refine (bytes_is L a1 hk _ H1.out hB).mono ?_; clear hB; rintro e w4 ⟨rfl, hB⟩)
      | (go_at_call 12; refine (rbytes_is a1 _ H1.out _).mono ?_; clear H1; rintro e w5 ⟨rfl, rfl⟩)
      | (go_at_call 11; have t := H2; clear t; refine (bytes_is L _ hcI _ H2.out hB).mono ?_; clear hB H2; rintro e w6 ⟨rfl, hB⟩)
      | (go_at_call 11; refine (bytes_is L _ hcJ _ H3.out hB).mono ?_; clear hB H3; rintro e w7 ⟨rfl, hB⟩))
      all_goals (go_ret; exact ⟨rfl, hB⟩)
    · go_enter Try.func3, Try.ntmps3
      go_wp2_with (first
      | (go_at_call 8; refine (awake_any L _).mono ?_; rintro e w1 ⟨rfl, hb⟩; replace hB := Bt hB hb; clear hb)
      | (go_at_call 9; refine (class_is L a0 hz _ _ HC.out HE.out hB).mono ?_; clear hB; rintro e w2 ⟨rfl, hB⟩)
      | (go_at_call 10; refine (rclass_is a0 _ _ HC.out HE.out _).mono ?_; clear HC; rintro e w3 ⟨rfl, rfl⟩)
      | (go_at_call 11; have t := H1; clear t; refine (bytes_is L a1 hk _ H1.out hB).mono ?_; clear hB; rintro e w4 ⟨rfl, hB⟩)
      | (go_at_call 12; refine (rbytes_is a1 _ H1.out _).mono ?_; clear H1; rintro e w5 ⟨rfl, rfl⟩)
      | (go_at_call 11; have t := H2; clear t; refine (bytes_is L _ hcI _ H2.out hB).mono ?_; clear hB H2; rintro e w6 ⟨rfl, hB⟩)
      | (go_at_call 11; refine (bytes_is L _ hcJ _ H3.out hB).mono ?_; clear hB H3; rintro e w7 ⟨rfl, hB⟩))
      go_ret
      exact ⟨rfl, hB⟩
  · clear hf
    go_enter Try.func3, Try.ntmps3
    go_wp2_with (first
      | (go_at_call 8; refine (awake_any L _).mono ?_; rintro e w1 ⟨rfl, hb⟩; replace hB := Bt hB hb; clear hb)
      | (go_at_call 9; refine (class_is L a0 hz _ _ HC.out HE.out hB).mono ?_; clear hB; rintro e w2 ⟨rfl, hB⟩)
      | (go_at_call 10; refine (rclass_is a0 _ _ HC.out HE.out _).mono ?_; clear HC; rintro e w3 ⟨rfl, rfl⟩)
      | (go_at_call 11; have t := H1; clear t; refine (bytes_is L a1 hk _ H1.out hB).mono ?_; clear hB; rintro e w4 ⟨rfl, hB⟩)
      | (go_at_call 12; refine (rbytes_is a1 _ H1.out _).mono ?_; clear H1; rintro e w5 ⟨rfl, rfl⟩)
      | (go_at_call 11; have t := H2; clear t; refine (bytes_is L _ hcI _ H2.out hB).mono ?_; clear hB H2; rintro e w6 ⟨rfl, hB⟩)
      | (go_at_call 11; refine (bytes_is L _ hcJ _ H3.out hB).mono ?_; clear hB H3; rintro e w7 ⟨rfl, hB⟩))
    go_ret
    exact ⟨rfl, hB⟩
end Go.Proofs.Ytdjagifmcimedaa
