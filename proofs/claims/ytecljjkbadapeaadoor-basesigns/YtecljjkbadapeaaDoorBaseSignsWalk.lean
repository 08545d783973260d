/- BaseSigns returns true for every bytes, and writes nothing that was there. Conditions: none. -/
import Derived.Test.YtecljjkbadapeaaDoorAwakeB
namespace Go.Proofs.YtecljjkbadapeaaDoor
open Go.RowKit

theorem sg_class : ∀ n, n < 64 → (65 ≤ (sigB.getD n 0).toNat ∧ (sigB.getD n 0).toNat ≤ 90) ∨ (97 ≤ (sigB.getD n 0).toNat ∧ (sigB.getD n 0).toNat ≤ 122) ∨ (48 ≤ (sigB.getD n 0).toNat ∧ (sigB.getD n 0).toNat ≤ 57) ∨ (sigB.getD n 0).toNat = 43 ∨ (sigB.getD n 0).toNat = 47 := by decide +kernel
theorem at_body (es : List Int) (hb : Byt es) (k : Nat) (h : k < (⟨(encB es).toArray⟩ : ByteArray).size) (hk : k < (encBody es).length) : ∃ n : Nat, n < 64 ∧ (⟨(encB es).toArray⟩ : ByteArray)[k] = sigB.getD n 0 := by
  have e : (⟨(encB es).toArray⟩ : ByteArray)[k] = (encBody es)[k] := by
    show ((encB es).toArray)[k]'h = _
    simp only [List.getElem_toArray, encB]
    exact List.getElem_append_left hk
  obtain ⟨n, h0, h1, h2⟩ := body_signs es hb _ (List.getElem_mem hk)
  exact ⟨n.toNat, by omega, by rw [e, h2]; rfl⟩
theorem at_fill (es : List Int) (k : Nat) (h : k < (⟨(encB es).toArray⟩ : ByteArray).size) (hk : (encBody es).length ≤ k) : (⟨(encB es).toArray⟩ : ByteArray)[k] = 61 := by
  show ((encB es).toArray)[k]'h = _
  simp only [List.getElem_toArray, encB]
  rw [List.getElem_append_right hk, List.getElem_replicate]

set_option maxHeartbeats 4000000 in
theorem baseSigns_in (a : Option Addr) (len cap : Nat) (es : List Int) (w : World) (h : Bs w a len cap es) (hl : len ≤ 3000) :
    Calls Tryd.prog 7 #[.slice a len cap] w fun e w' => e = .returned (.bool true) ∧ Below w.heap.size w w' := by
  have hli : (len : Int) ≤ 3000 := by omega
  have hn := h.len_
  obtain ⟨S, hS⟩ : ∃ S : ByteArray, S = ⟨(encB es).toArray⟩ := ⟨_, rfl⟩
  obtain ⟨m, hm⟩ : ∃ m, m = (encBody es).length := ⟨_, rfl⟩
  have hsz : S.size = m + fillN len := by rw [hS, size_arr, encB, List.length_append, List.length_replicate, hn, hm]
  have hsz2 : S.size ≤ 10000 := by rw [hS, size_arr, enc_len, hn]; omega
  have HF : Hid (∀ k (hk : k < S.size), m ≤ k → S[k] = 61) := by
    subst hS
    intro k hk hkm
    exact at_fill es k hk (by omega)
  have HB : Hid (∀ k (hk : k < S.size), k < m → ∃ n : Nat, n < 64 ∧ S[k] = sigB.getD n 0) := by
    subst hS
    intro k hk hkm
    exact at_body es h.bd k hk (by omega)
  have HEn := hide (fun (W : World) (hB : Below w.heap.size w W) => by have := encode_any (h.on hB) (by omega); rw [← hS] at this; exact this)
  have hms : m ≤ S.size := by omega
  have hfin : (S.size : Int) - (m : Int) = (3 - (len : Int) % 3) % 3 := by unfold fillN at hsz; omega
  have HFin := hide hfin
  clear hS h hn hsz hm hfin
  go_enter Tryd.func7, Tryd.ntmps7
  go_wp2_with (first
    | (go_at_call 9; refine (awake_any _).mono ?_; rintro e w1 ⟨rfl, h1⟩)
    | (go_at_call 12; refine (HEn.out _ h1).mono ?_; rintro e w2 ⟨rfl, h2⟩; have h12 := Bt h1 h2))
  go_loop [5] (fun i => ∃ p : Nat, m ≤ p ∧ p ≤ S.size ∧ i = .int .i64 p) (fun i => (intOf i).toNat)
  case atStart => exact ⟨S.size, hms, Nat.le_refl _, rfl⟩
  case round =>
    obtain ⟨p, hp1, hp2, rfl⟩ := hrel
    by_cases hlt : m < p
    · obtain ⟨q, rfl⟩ : ∃ q, p = q + 1 := ⟨p - 1, by omega⟩
      have hq : S[q]'(by omega) = 61 := HF.out q (by omega) (by omega)
      have hqi : ((q + 1 : Nat) : Int) - 1 = (q : Int) := by omega
      have hq0 : (0 : Int) < ((q + 1 : Nat) : Int) := by omega
      have hqs : q < S.size := by omega
      go_wp2
      go_round
      case rel => exact ⟨q, by omega, by omega, by go_num⟩
      case measure => simp [intOf]
    · have hpm : p = m := by omega
      subst hpm
      rcases Nat.eq_zero_or_pos p with h0 | h0
      · subst h0
        have hfin := HFin.out
        rw [show (S.size : Int) - ((0 : Nat) : Int) = (S.size : Int) by omega] at hfin
        have HFin2 := hide hfin
        clear hfin
        go_wp2
        refine wp_loop_rounds 1 ?_
        rw [rounds_succ]
        go_wp2
        go_ret
        exact ⟨ret_bool (by rw [HFin2.out]; simp), h12⟩
      · obtain ⟨q, rfl⟩ : ∃ q, p = q + 1 := ⟨p - 1, by omega⟩
        have hqi : ((q + 1 : Nat) : Int) - 1 = (q : Int) := by omega
        have hq0 : (0 : Int) < ((q + 1 : Nat) : Int) := by omega
        have hqs : q < S.size := by omega
        obtain ⟨n, hn1, hn2⟩ := HB.out q hqs (by omega)
        obtain ⟨y, hy⟩ : ∃ y, (S[q]).toNat = y := ⟨_, rfl⟩
        have hcl := sg_class n hn1
        rw [← hn2, hy] at hcl
        have hy61 : ((y : Int) == 61) = false := by
          have : ¬ (y : Int) = 61 := by omega
          simpa using this
        clear hn2 hcl
        go_wp2
        go_loop [6] (fun i => ∃ k : Nat, k ≤ q + 1 ∧ i = .int .i64 k) (fun i => q + 1 - (intOf i).toNat)
        case atStart => exact ⟨0, Nat.zero_le _, rfl⟩
        case round =>
          obtain ⟨k, hk, rfl⟩ := hrel
          clear hy hy61 hqi hq0
          by_cases hkt : k < q + 1
          · have hks : k < S.size := by omega
            obtain ⟨n2, hn3, hn4⟩ := HB.out k hks (by omega)
            obtain ⟨z, hz⟩ : ∃ z, (S[k]).toNat = z := ⟨_, rfl⟩
            have hcl := sg_class n2 hn3
            rw [← hn4, hz] at hcl
            have hkq : (k : Int) < (q : Int) + 1 := by omega
            clear hn4
            rcases hcl with ⟨c1, c2⟩ | ⟨c1, c2⟩ | ⟨c1, c2⟩ | c1 | c1
            · have d1 : (65 : Int) ≤ (z : Int) := by omega
              have d2 : (z : Int) ≤ 90 := by omega
              go_wp2
              go_round
              case rel => exact ⟨k + 1, by omega, by go_num⟩
              case measure => first | (simp [intOf]; done) | (simp [intOf]; omega)
            · have d1 : (97 : Int) ≤ (z : Int) := by omega
              have d2 : (z : Int) ≤ 122 := by omega
              go_wp2
              go_round
              case rel => exact ⟨k + 1, by omega, by go_num⟩
              case measure => first | (simp [intOf]; done) | (simp [intOf]; omega)
            · have d1 : (48 : Int) ≤ (z : Int) := by omega
              have d2 : (z : Int) ≤ 57 := by omega
              go_wp2
              go_round
              case rel => exact ⟨k + 1, by omega, by go_num⟩
              case measure => first | (simp [intOf]; done) | (simp [intOf]; omega)
            · subst c1
              go_wp2
              go_round
              case rel => exact ⟨k + 1, by omega, by go_num⟩
              case measure => first | (simp [intOf]; done) | (simp [intOf]; omega)
            · subst c1
              go_wp2
              go_round
              case rel => exact ⟨k + 1, by omega, by go_num⟩
              case measure => first | (simp [intOf]; done) | (simp [intOf]; omega)
          · have hkq : (q : Int) + 1 ≤ (k : Int) := by omega
            go_wp2
            go_ret
            exact ⟨ret_bool (by have := HFin.out; simp only [beq_iff_eq]; omega), h12⟩

set_option maxHeartbeats 2000000 in
theorem baseSigns_out (a : Option Addr) (len cap : Nat) (w : World) (hl : 3000 < len) :
    Calls Tryd.prog 7 #[.slice a len cap] w fun e w' => e = .returned (.bool true) ∧ Below w.heap.size w w' := by
  have hli : (3000 : Int) < (len : Int) := by omega
  go_enter Tryd.func7, Tryd.ntmps7
  go_wp2_with (go_at_call 9; refine (awake_any _).mono ?_; rintro e w1 ⟨rfl, h1⟩)
  go_ret
  exact ⟨rfl, h1⟩

theorem baseSigns_walk (W : World) (a0 : Option Addr) (len0 cap0 : Nat) (z0 : List Int) (w0 : IsRow .u8 W a0 len0 cap0 z0) :
    Calls Tryd.prog 7 #[.slice a0 len0 cap0] W fun e W' => e = .returned (.bool true) ∧ Below W.heap.size W W' := by
  by_cases h : len0 ≤ 3000
  · exact baseSigns_in a0 len0 cap0 _ W w0.bs h
  · exact baseSigns_out a0 len0 cap0 W (by omega)
end Go.Proofs.YtecljjkbadapeaaDoor
