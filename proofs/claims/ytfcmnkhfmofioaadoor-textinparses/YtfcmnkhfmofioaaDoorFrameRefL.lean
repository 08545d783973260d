/- The document's own Line and Body. Conditions: rows of at most 10000 bytes. -/
import Derived.Test.YtfcmnkhfmofioaaDoorFrameRefP
namespace Go.Proofs.YtfcmnkhfmofioaaDoor
open Go.RowKit

theorem byte_ne {c d : UInt8} {n : Nat} (hd : d.toNat = n) (h : c ≠ d) : ¬ ((c.toNat : Nat) : Int) = (n : Int) := fun e => h (by
  apply UInt8.toNat.inj
  omega)
/-- Bytes as the first i of them and the two behind. -/
theorem two_at {l : List UInt8} {k : Nat} (h : k + 2 ≤ l.length) : (l.drop k).take 2 = [l[k], l[k + 1]] := by
  rw [List.drop_eq_getElem_cons (by omega), List.take_succ_cons, List.drop_eq_getElem_cons (by omega), List.take_succ_cons, List.take_zero]
set_option maxRecDepth 100000 in
set_option maxHeartbeats 1000000 in
theorem rline_any {w : World} {a : Option Addr} {len cap : Nat} {l : List UInt8} (h : Bu w a len cap l) (hlen : len ≤ 10000) :
    Calls Tryd.prog 13 #[.slice a len cap] w fun e w' => e = .returned (lineV (lineN l)) ∧ w = w' := by
  have HI := hide (rfeed_any h hlen)
  have hn := h.n
  have hc := h.c
  rcases feeds l with hf | ⟨p, r, hl, hf⟩
  · rw [feedI_no hf] at HI
    rw [lineN_no hf, hn]
    by_cases hg : 2049 < len
    · rw [if_pos hg]
      have hi : (2049 : Int) < (len : Int) := by omega
      clear h hn hc hlen hg hf
      go_enter Tryd.func13, Tryd.ntmps13
      go_wp2_with (go_at_call 32; refine HI.out.mono ?_; rintro e w1 ⟨rfl, rfl⟩)
      go_ret3
      exact ⟨rfl, rfl⟩
    · rw [if_neg hg]
      have hi : ¬ (2049 : Int) < (len : Int) := by omega
      clear h hn hc hlen hg hf
      go_enter Tryd.func13, Tryd.ntmps13
      go_wp2_with (go_at_call 32; refine HI.out.mono ?_; rintro e w1 ⟨rfl, rfl⟩)
      go_ret3
      exact ⟨rfl, rfl⟩
  · have hk1 : p.length + 1 ≤ len := by rw [← hn, hl, List.length_append, List.length_cons]; omega
    obtain ⟨b, off, rfl, hcell⟩ := h.cell (by omega)
    rw [hl, feedI_of hf] at HI
    rw [hl, lineN_of hf]
    rcases List.eq_nil_or_concat p with rfl | ⟨q, c, rfl⟩
    · have hcv := convU (h.front (j := 0) (c := cap) (by omega) (by omega) (Nat.le_refl _))
      rw [List.take_zero] at hcv
      have hcz : (0 : Int) ≤ (cap : Int) := by omega
      have e0 : noCR ([] : List UInt8) = [] := rfl
      rw [e0, if_neg (by decide)]
      simp only [List.length_nil, Int.natCast_zero] at HI hcv ⊢
      clear h hn hc hcell hl hf hk1 hlen
      go_enter Tryd.func13, Tryd.ntmps13
      go_wp2_with (go_at_call 32; refine HI.out.mono ?_; rintro e w1 ⟨rfl, rfl⟩)
      go_ret3
      exact ⟨rfl, rfl⟩
    · rw [List.concat_eq_append] at *
      obtain ⟨k, hk⟩ : ∃ k, q.length = k := ⟨_, rfl⟩
      have hkl : k < l.length := by rw [hl]; simp only [List.length_append, List.length_cons, List.length_nil]; omega
      have hlk : l[k] = c := by
        subst hl
        simp [hk]
      have hck := hcell k hkl
      rw [hlk] at hck
      have hpl : (q ++ [c]).length = k + 1 := by rw [List.length_append, hk]; rfl
      rw [hpl] at HI hk1 ⊢
      have k0 : (0 : Int) < (k : Int) + 1 := by omega
      have kl : (k : Int) < (len : Int) := by omega
      have kn : ¬ (k : Int) < 0 := by omega
      have e1 : wrap64 ((k : Int) + 1 - 1) = (k : Int) := by unfold wrap64; omega
      have e1' : (k : Int) + 1 - 1 = (k : Int) := by omega
      have e1w : wrap64 (k : Int) = (k : Int) := by unfold wrap64; omega
      have e2 : wrap64 ((k : Int) + 1 + 1) = (k : Int) + 1 + 1 := by unfold wrap64; omega
      have E0 : Hid (((k + 1 : Nat) : Int) = (k : Int) + 1) := by show _ = _; omega
      rw [E0.out] at HI ⊢
      by_cases h13 : c = 13
      · subst h13
        rw [noCR_snoc, hk]
        have hq : l.take k = q := by rw [hl, List.append_assoc, ← hk, List.take_left]
        have hcv := convU (h.front (j := k) (c := cap) (by omega) (by omega) (Nat.le_refl _))
        rw [hq] at hcv
        have kc : (k : Int) ≤ (cap : Int) := by omega
        by_cases hg : 2048 < k
        · rw [if_pos hg]
          have hi : (2048 : Int) < (k : Int) := by omega
          clear h hn hc hcell hl hf hk1 hlen hg hq hk hkl hlk hpl
          go_enter Tryd.func13, Tryd.ntmps13
          go_wp2_with (go_at_call 32; refine HI.out.mono ?_; rintro e w1 ⟨rfl, rfl⟩)
          go_ret3
          exact ⟨by first | rfl | (rw [e2]; rfl), rfl⟩
        · rw [if_neg hg]
          have hi : ¬ (2048 : Int) < (k : Int) := by omega
          clear h hn hc hcell hl hf hk1 hlen hg hq hk hkl hlk hpl
          go_enter Tryd.func13, Tryd.ntmps13
          go_wp2_with (go_at_call 32; refine HI.out.mono ?_; rintro e w1 ⟨rfl, rfl⟩)
          go_ret3
          exact ⟨by first | rfl | (rw [e2]; rfl), rfl⟩
      · have en : noCR (q ++ [c]) = q ++ [c] := by unfold noCR; rw [if_neg (by simpa using h13)]
        have z13 : ¬ ((c.toNat : Nat) : Int) = 13 := byte_ne (n := 13) rfl h13
        generalize ((c.toNat : Nat) : Int) = z at *
        rw [en, hpl]
        have hq : l.take (k + 1) = q ++ [c] := by rw [hl, ← hpl, List.take_left]
        have hcv := convU (h.front (j := k + 1) (c := cap) (by omega) (by omega) (Nat.le_refl _))
        rw [hq] at hcv
        have kc : (k : Int) + 1 ≤ (cap : Int) := by omega
        have hs0 : ∀ j : Nat, (j : Int) ≤ (cap : Int) → ∀ W : World, (Instr.sliceAt 22 (.slice (some ⟨b, off, none⟩) len cap) none (some (.int .i64 (j : Int))) none).run Tryd.prog W = .ok (.slice (some ⟨b, off, none⟩) j cap) W := fun j hj W => by
          go_simp
        have hs1 := hs0 (k + 1) (by omega)
        rw [E0.out] at hs1
        clear hs0
        by_cases hg : 2048 < k + 1
        · rw [if_pos hg]
          have hi : (2048 : Int) < (k : Int) + 1 := by omega
          clear h hn hc hcell hl hf hk1 hlen hg hq hk hkl hlk hpl h13 en
          go_enter Tryd.func13, Tryd.ntmps13
          go_wp2_with (go_at_call 32; refine HI.out.mono ?_; rintro e w1 ⟨rfl, rfl⟩)
          go_ret3
          exact ⟨by first | rfl | (rw [e2]; rfl), rfl⟩
        · rw [if_neg hg]
          have hi : ¬ (2048 : Int) < (k : Int) + 1 := by omega
          clear h hn hc hcell hl hf hk1 hlen hg hq hk hkl hlk hpl h13 en
          go_enter Tryd.func13, Tryd.ntmps13
          go_wp2_with (go_at_call 32; refine HI.out.mono ?_; rintro e w1 ⟨rfl, rfl⟩)
          go_ret3
          exact ⟨by first | rfl | (rw [e2]; rfl), rfl⟩
set_option maxRecDepth 100000 in
set_option maxHeartbeats 1000000 in
theorem rbody_any {w : World} {a : Option Addr} {len cap : Nat} {l : List UInt8} (h : Bu w a len cap l) (n : Int) :
    Calls Tryd.prog 39 #[.slice a len cap, .int .i64 n] w fun e w' => BodyEnd (bodyN l n) w w' e := by
  have hl := h.n
  unfold bodyN
  rw [hl]
  by_cases h1 : n < 0
  · rw [if_pos (.inl h1)]
    go_enter Tryd.func39, Tryd.ntmps39
    go_wp2
    go_ret3
    exact ⟨none, 0, rfl, val_nil _ _, gr_refl _ _⟩
  · by_cases h2 : 1000 < n
    · rw [if_pos (.inr h2)]
      go_enter Tryd.func39, Tryd.ntmps39
      go_wp2
      go_ret3
      exact ⟨none, 0, rfl, val_nil _ _, gr_refl _ _⟩
    · rw [if_neg (by omega)]
      obtain ⟨k, rfl⟩ := Int.eq_ofNat_of_zero_le (show 0 ≤ n by omega)
      have e1 : wrap64 ((k : Int) + 2) = (k : Int) + 2 := by unfold wrap64; omega
      have e2 : wrap64 ((k : Int) + 1) = (k : Int) + 1 := by unfold wrap64; omega
      have k0 : ¬ (1000 : Int) < (k : Int) := h2
      have hk : k ≤ 1000 := by omega
      by_cases h3 : (len : Int) < (k : Int) + 2
      · rw [if_pos h3]
        clear h1 h2
        go_enter Tryd.func39, Tryd.ntmps39
        go_wp2
        go_ret3
        exact ⟨none, 0, rfl, val_nil _ _, gr_refl _ _⟩
      · rw [if_neg h3, Int.toNat_natCast]
        have hc := h.c
        obtain ⟨b, off, rfl, hcell⟩ := h.cell (by omega)
        have hc0 := hcell k (by omega)
        have hc1 := hcell (k + 1) (by omega)
        rw [two_at (show k + 2 ≤ l.length by omega)]
        have kl : (k : Int) < (len : Int) := by omega
        have kl1 : (k : Int) + 1 < (len : Int) := by omega
        have kn : ¬ (k : Int) < 0 := by omega
        have kn1 : ¬ (k : Int) + 1 < 0 := by omega
        have E0 : ((k : Int) + 1).toNat = k + 1 := by omega
        by_cases q1 : l[k] = 13
        · rw [q1] at hc0 ⊢
          by_cases q2 : l[k + 1] = 10
          · rw [q2] at hc1
            rw [q2, if_pos rfl]
            have HF := hide (h.front (j := k) (c := cap) (by omega) (by omega) (Nat.le_refl _))
            have kc : (k : Int) ≤ (cap : Int) := by omega
            have HL : Hid ((l.take k).length = k) := by show (l.take k).length = k; rw [List.length_take, hl]; omega
            clear h1 h2 hc hl hcell q1 q2 h
            go_enter Tryd.func39, Tryd.ntmps39
            go_wp2_with (at_builtin; refine wpList_append_bs rfl _ _ rfl w.heap.size _ 0 [] rfl (World.ownsRow_nil _ _ _ _) _ k cap (l.take k) rfl HL.out HF.out.b (by omega) (Nat.le_refl _) ?_; intro v' w' ho hg hkk)
            rw [Nat.zero_add] at ho
            obtain ⟨a1, c1, rfl⟩ := own_shape ho
            go_ret3
            refine ⟨a1, c1, by rw [HL.out]; first | rfl | (rw [e1]; rfl), ?_, hg⟩
            unfold ValAt
            rw [HL.out]
            exact ho
          · rw [if_neg (by simp; exact q2)]
            have z10 : ¬ ((l[k + 1].toNat : Nat) : Int) = 10 := byte_ne (n := 10) rfl q2
            generalize ((l[k + 1].toNat : Nat) : Int) = z at *
            clear h1 h2 hc hl hcell q1 q2 h
            go_enter Tryd.func39, Tryd.ntmps39
            go_wp2
            go_ret3
            exact ⟨none, 0, rfl, val_nil _ _, gr_refl _ _⟩
        · rw [if_neg (by simp; intro e; exact absurd e q1)]
          have z13 : ¬ ((l[k].toNat : Nat) : Int) = 13 := byte_ne (n := 13) rfl q1
          generalize ((l[k].toNat : Nat) : Int) = z at *
          clear h1 h2 hc hl hcell q1 h hc1
          go_enter Tryd.func39, Tryd.ntmps39
          go_wp2
          go_ret3
          exact ⟨none, 0, rfl, val_nil _ _, gr_refl _ _⟩
end Go.Proofs.YtfcmnkhfmofioaaDoor
