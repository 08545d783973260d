/- The document's own Pass, and its search for a line feed. Conditions: none. -/
import Derived.Test.YtggaifkjmlhmlaaFrameG
namespace Go.Proofs.Ytggaifkjmlhmlaa
open Go.RowKit

/-- What is told of the bytes from k on. -/
theorem feedI_step {l : List UInt8} {k : Nat} (h : k < l.length) (hne : l[k] ≠ 10) : feedI (l.drop k) = if feedI (l.drop (k + 1)) < 0 then -1 else feedI (l.drop (k + 1)) + 1 := by
  rw [List.drop_eq_getElem_cons h]
  have hf := (feedI_lt (l.drop (k + 1))).2
  unfold feedI at *
  rw [cutL, if_neg hne]
  cases hc : cutL (l.drop (k + 1)) with
  | none => rfl
  | some x =>
    simp only [Option.map]
    rw [if_neg (by omega)]
    simp
theorem feedI_here {l : List UInt8} {k : Nat} (h : k < l.length) (he : l[k] = 10) : feedI (l.drop k) = 0 := by
  rw [List.drop_eq_getElem_cons h, he]
  exact feedI_of (p := []) (by simp)
/-- The search that came to k without a line feed. -/
def restF (l : List UInt8) (k : Nat) : Int := if feedI (l.drop k) < 0 then -1 else feedI (l.drop k) + k
theorem restF_zero (l : List UInt8) : restF l 0 = feedI l := by
  unfold restF
  have := (feedI_lt l).2
  rw [List.drop_zero]
  split <;> omega
theorem restF_step {l : List UInt8} {k : Nat} (h : k < l.length) (hne : l[k] ≠ 10) : restF l k = restF l (k + 1) := by
  unfold restF
  rw [feedI_step h hne]
  by_cases h0 : feedI (l.drop (k + 1)) < 0
  · simp only [if_pos h0]
    rfl
  · rw [if_neg h0, if_neg h0, if_neg (by omega)]
    omega
theorem restF_here {l : List UInt8} {k : Nat} (h : k < l.length) (he : l[k] = 10) : restF l k = k := by
  unfold restF
  rw [feedI_here h he]
  simp
theorem restF_end {l : List UInt8} {k : Nat} (h : l.length ≤ k) : restF l k = -1 := by
  unfold restF
  rw [List.drop_eq_nil_of_le h]
  rfl
/-- One byte of a row. -/
theorem Bu.cell {w : World} {a : Option Addr} {len cap : Nat} {l : List UInt8} (h : Bu w a len cap l) (h1 : 1 ≤ len) : ∃ b off, a = some ⟨b, off, none⟩ ∧ ∀ i, ∀ hi : i < l.length, w.cell? ⟨b, off + i, none⟩ = some (.int .u8 (l[i].toNat : Int)) := by
  rcases h.b with ⟨h4, _, _⟩ | ⟨b, off, r⟩
  · omega
  · refine ⟨b, off, r.at_, fun i hi => ?_⟩
    rw [r.cell i (by rw [← h.n]; exact hi), getD_ints l i hi]
set_option maxRecDepth 100000 in
set_option maxHeartbeats 1000000 in
theorem rfeed_any {w : World} {a : Option Addr} {len cap : Nat} {l : List UInt8} (h : Bu w a len cap l) (hlen : len ≤ 10000) :
    Calls Try.prog 23 #[.slice a len cap] w fun e w' => e = .returned (.int .i64 (feedI l)) ∧ w = w' := by
  have hn := h.n
  by_cases h0 : len = 0
  · subst h0
    have hl : l = [] := List.eq_nil_of_length_eq_zero hn
    subst hl
    go_enter Try.func23, Try.ntmps23
    go_wp2
    go_loopw [3] (fun i wr => i = .int .i64 0 ∧ w = wr) (fun _ _ => 0)
    case atStart => exact ⟨rfl, rfl⟩
    case round =>
      obtain ⟨rfl, rfl⟩ := hrel
      go_wp2
      go_ret
      exact ⟨rfl, rfl⟩
  · obtain ⟨b, off, rfl, hcell⟩ := h.cell (by omega)
    have hc := h.c
    rw [← restF_zero]
    have HC := hide hcell
    obtain ⟨R, HR0⟩ : ∃ R, Hid (restF l 0 = R) := ⟨_, rfl⟩
    rw [HR0.out]
    have HN := hide hn
    clear h hcell hn
    go_enter Try.func23, Try.ntmps23
    go_wp2
    go_loopw [3] (fun i wr => ∃ k : Nat, k ≤ len ∧ i = .int .i64 k ∧ Hid (R = restF l k) ∧ w = wr) (fun i _ => len - (intOf i).toNat)
    case atStart => exact ⟨0, by omega, rfl, HR0.out.symm, rfl⟩
    case round =>
      obtain ⟨k, hk, rfl, HR, rfl⟩ := hrel
      by_cases hlt : k < len
      · have hkl : k < l.length := by rw [HN.out]; exact hlt
        have hck := HC.out k hkl
        by_cases hq : l[k] = 10
        · have HF : Hid (R = (k : Int)) := HR.out.trans (restF_here hkl hq)
          rw [hq] at hck
          clear hq
          go_wp2
          go_ret
          exact ⟨by rw [HF.out]; rfl, rfl⟩
        · have HF : Hid (R = restF l (k + 1)) := HR.out.trans (restF_step hkl hq)
          obtain ⟨z, hz⟩ : ∃ z : Int, ((l[k].toNat : Nat) : Int) = z := ⟨_, rfl⟩
          have hz2 : ¬ z = 10 := fun e => hq (by
            apply UInt8.toNat.inj
            have : l[k].toNat = 10 := by omega
            rw [this]
            rfl)
          rw [hz] at hck
          clear hq hz
          go_wp2
          go_roundw
          case rel => exact ⟨k + 1, by omega, by go_num, HF, by first | trivial | rfl⟩
          case measure => first | (simp [intOf]; done) | (simp [intOf]; omega)
      · have HF : Hid (R = -1) := HR.out.trans (restF_end (by rw [HN.out]; omega))
        go_wp2
        go_ret
        exact ⟨by rw [HF.out]; rfl, rfl⟩
set_option maxRecDepth 100000 in
set_option maxHeartbeats 1000000 in
theorem rpass_nat {w : World} {a : Option Addr} {len cap : Nat} {l : List UInt8} (h : Bu w a len cap l) (hlen : len ≤ 10000) (k : Nat) (hkb : (k : Int) < 9223372036854775808) (b : Bool) :
    Calls Try.prog 19 #[.slice a len cap, .int .i64 (k : Int), .bool b] w fun e w' => e = .returned (passV (passN l k b)) ∧ w = w' := by
  have hn := h.n
  have hc := h.c
  have hm := h.m
  unfold maxLen at hm
  rw [passN_nat hn]
  by_cases h1 : len < k
  · rw [if_pos h1]
    have e1 : wrap64 ((k : Int) - (len : Int)) = (k : Int) - (len : Int) := by unfold wrap64; omega
    have e2 : 0 < wrap64 ((k : Int) - (len : Int)) := by rw [e1]; omega
    have h1i : (len : Int) < (k : Int) := by omega
    have E1 := hide e1
    clear hlen hkb hm hc hn h h1 e1 e2
    cases b
    all_goals
      go_enter Try.func19, Try.ntmps19
      go_wp2
      go_ret3
      exact ⟨by rw [E1.out]; rfl, rfl⟩
  · rw [if_neg h1]
    have h1i : (k : Int) ≤ (len : Int) := by omega
    cases b with
    | false =>
      rw [if_pos rfl]
      clear hlen hkb hm hc hn h h1
      go_enter Try.func19, Try.ntmps19
      go_wp2
      go_ret3
      exact ⟨rfl, rfl⟩
    | true =>
      rw [if_neg (by decide)]
      obtain ⟨a', hsl, hb⟩ := h.back (i := k) (by omega)
      have HI := hide (rfeed_any (hb w h) (by omega))
      have hlt := feedI_lt (l.drop k)
      rw [List.length_drop, hn] at hlt
      obtain ⟨f, hf⟩ : ∃ f, feedI (l.drop k) = f := ⟨_, rfl⟩
      rw [hf] at HI hlt ⊢
      by_cases h2 : f < 0
      · rw [if_pos h2]
        clear hlen hkb hm hc hn h h1 hb hf hlt
        go_enter Try.func19, Try.ntmps19
        go_wp2_with (go_at_call 23; refine HI.out.mono ?_; rintro e w1 ⟨rfl, rfl⟩)
        go_ret3
        exact ⟨rfl, rfl⟩
      · rw [if_neg h2]
        have E1 := hide (show wrap64 ((k : Int) + f) = (k : Int) + f by unfold wrap64; omega)
        have E2 := hide (show wrap64 ((k : Int) + f + 1) = (k : Int) + f + 1 by unfold wrap64; omega)
        clear hlen hkb hm hc hn h h1 hb hf hlt
        go_enter Try.func19, Try.ntmps19
        go_wp2_with (go_at_call 23; refine HI.out.mono ?_; rintro e w1 ⟨rfl, rfl⟩)
        go_ret3
        exact ⟨by first | rfl | (rw [E1.out, E2.out]; rfl), rfl⟩
set_option maxRecDepth 100000 in
set_option maxHeartbeats 1000000 in
theorem rpass_low {w : World} {a : Option Addr} {len cap : Nat} {l : List UInt8} (h : Bu w a len cap l) (hlen : len ≤ 10000) (s : Int) (hs : s < 0) (b : Bool) :
    Calls Try.prog 19 #[.slice a len cap, .int .i64 s, .bool b] w fun e w' => e = .returned (passV (passN l s b)) ∧ w = w' := by
  have hn := h.n
  have hc := h.c
  have hm := h.m
  unfold maxLen at hm
  rw [passN_neg l hs, show (0 : Int) = ((0 : Nat) : Int) from rfl, passN_nat hn, if_neg (by omega : ¬ len < 0)]
  cases b with
  | false =>
    rw [if_pos rfl]
    clear hlen hm hc hn h
    go_enter Try.func19, Try.ntmps19
    go_wp2
    go_ret3
    exact ⟨rfl, rfl⟩
  | true =>
    rw [if_neg (by decide)]
    obtain ⟨a', hsl, hb⟩ := h.back (i := 0) (by omega)
    have HI := hide (rfeed_any (hb w h) (by omega))
    have hlt := feedI_lt (l.drop 0)
    rw [List.length_drop, hn] at hlt
    obtain ⟨f, hf⟩ : ∃ f, feedI (l.drop 0) = f := ⟨_, rfl⟩
    rw [hf] at HI hlt ⊢
    simp only [Nat.sub_zero, Int.natCast_zero] at hsl HI
    by_cases h2 : f < 0
    · rw [if_pos h2]
      clear hlen hm hc hn h hb hf hlt
      go_enter Try.func19, Try.ntmps19
      go_wp2_with (go_at_call 23; refine HI.out.mono ?_; rintro e w1 ⟨rfl, rfl⟩)
      go_ret3
      exact ⟨rfl, rfl⟩
    · rw [if_neg h2]
      have E1 := hide (show wrap64 f = f by unfold wrap64; omega)
      have E2 := hide (show wrap64 (f + 1) = f + 1 by unfold wrap64; omega)
      have E3 := hide (show ((0 : Nat) : Int) + f + 1 = f + 1 by omega)
      clear hlen hm hc hn h hb hf hlt
      go_enter Try.func19, Try.ntmps19
      go_wp2_with (go_at_call 23; refine HI.out.mono ?_; rintro e w1 ⟨rfl, rfl⟩)
      go_ret3
      exact ⟨by first | (rw [E3.out]; rfl) | (rw [E3.out, E1.out, E2.out]; rfl) | (rw [E3.out, E2.out]; rfl), rfl⟩
theorem rpass_any {w : World} {a : Option Addr} {len cap : Nat} {l : List UInt8} (h : Bu w a len cap l) (hlen : len ≤ 10000) (s : Int) (hs : s < 9223372036854775808) (b : Bool) :
    Calls Try.prog 19 #[.slice a len cap, .int .i64 s, .bool b] w fun e w' => e = .returned (passV (passN l s b)) ∧ w = w' := by
  by_cases h0 : s < 0
  · exact rpass_low h hlen s h0 b
  · obtain ⟨k, rfl⟩ := Int.eq_ofNat_of_zero_le (show 0 ≤ s by omega)
    exact rpass_nat h hlen k hs b
end Go.Proofs.Ytggaifkjmlhmlaa
