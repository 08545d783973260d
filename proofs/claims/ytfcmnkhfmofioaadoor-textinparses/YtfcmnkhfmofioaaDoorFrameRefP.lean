/- The document's own Pass, and its search for a line feed. Conditions: none. -/
import Derived.Test.YtfcmnkhfmofioaaDoorFrameG
namespace Go.Proofs.YtfcmnkhfmofioaaDoor
open Go.RowKit

/-- What is told of the bytes from k on. -/
theorem feedI_step {l : List UInt8} {k : Nat} (h : k < l.length) (hne : l[k] ≠ 10) : feedI (l.drop k) = if feedI (l.drop (k + 1)) < 0 then -1 else feedI (l.drop (k + 1)) + 1 := by
  rw [List.drop_eq_getElem_cons h]
  have hf := (feedI_lt (l.drop (k + 1))).2
  unfold feedI at *
  rw [cutL, if_neg hne]
  cases hc : cutL (l.drop (k + 1)) with
  | none => rfl
  | some x =>
    simp only [Option.map]
    rw [if_neg (by omega)]
    simp
theorem feedI_here {l : List UInt8} {k : Nat} (h : k < l.length) (he : l[k] = 10) : feedI (l.drop k) = 0 := by
  rw [List.drop_eq_getElem_cons h, he]
  exact feedI_of (p := []) (by simp)
/-- The search that came to k without a line feed. -/
def restF (l : List UInt8) (k : Nat) : Int := if feedI (l.drop k) < 0 then -1 else feedI (l.drop k) + k
theorem restF_zero (l : List UInt8) : restF l 0 = feedI l := by
  unfold restF
  have := (feedI_lt l).2
  rw [List.drop_zero]
  split <;> omega
theorem restF_step {l : List UInt8} {k : Nat} (h : k < l.length) (hne : l[k] ≠ 10) : restF l k = restF l (k + 1) := by
  unfold restF
  rw [feedI_step h hne]
  by_cases h0 : feedI (l.drop (k + 1)) < 0
  · simp only [if_pos h0]
    rfl
  · rw [if_neg h0, if_neg h0, if_neg (by omega)]
    omega
theorem restF_here {l : List UInt8} {k : Nat} (h : k < l.length) (he : l[k] = 10) : restF l k = k := by
  unfold restF
  rw [feedI_here h he]
  simp
theorem restF_end {l : List UInt8} {k : Nat} (h : l.length ≤ k) : restF l k = -1 := by
  unfold restF
  rw [List.drop_eq_nil_of_le h]
  rfl
set_option maxRecDepth 100000 in
set_option maxHeartbeats 1000000 in
theorem rfeed_any {w : World} {a : Option Addr} {len cap : Nat} {l : List UInt8} (h : Bu w a len cap l) (hlen : len ≤ 10000) :
    Calls Tryd.prog 32 #[.slice a len cap] w fun e w' => e = .returned (.int .i64 (feedI l)) ∧ w = w' := by
  have hn := h.n
  by_cases h0 : len = 0
  · subst h0
    have hl : l = [] := List.eq_nil_of_length_eq_zero hn
    subst hl
    go_enter Tryd.func32, Tryd.ntmps32
    go_wp2
    go_loopw [3] (fun i wr => i = .int .i64 0 ∧ w = wr) (fun _ _ => 0)
    case atStart => exact ⟨rfl, rfl⟩
    case round =>
      obtain ⟨rfl, rfl⟩ := hrel
      go_wp2
      go_ret
      exact ⟨rfl, rfl⟩
  · obtain ⟨b, off, rfl, hcell⟩ := h.cell (by omega)
    have hc := h.c
    rw [← restF_zero]
    have HC := hide hcell
    obtain ⟨R, HR0⟩ : ∃ R, Hid (restF l 0 = R) := ⟨_, rfl⟩
    rw [HR0.out]
    have HN := hide hn
    clear h hcell hn
    go_enter Tryd.func32, Tryd.ntmps32
    go_wp2
    go_loopw [3] (fun i wr => ∃ k : Nat, k ≤ len ∧ i = .int .i64 k ∧ Hid (R = restF l k) ∧ w = wr) (fun i _ => len - (intOf i).toNat)
    case atStart => exact ⟨0, by omega, rfl, HR0.out.symm, rfl⟩
    case round =>
      obtain ⟨k, hk, rfl, HR, rfl⟩ := hrel
      by_cases hlt : k < len
      · have hkl : k < l.length := by rw [HN.out]; exact hlt
        have hck := HC.out k hkl
        by_cases hq : l[k] = 10
        · have HF : Hid (R = (k : Int)) := HR.out.trans (restF_here hkl hq)
          rw [hq] at hck
          clear hq
          go_wp2
          go_ret
          exact ⟨by rw [HF.out]; rfl, rfl⟩
        · have HF : Hid (R = restF l (k + 1)) := HR.out.trans (restF_step hkl hq)
          obtain ⟨z, hz⟩ : ∃ z : Int, ((l[k].toNat : Nat) : Int) = z := ⟨_, rfl⟩
          have hz2 : ¬ z = 10 := fun e => hq (by
            apply UInt8.toNat.inj
            have : l[k].toNat = 10 := by omega
            rw [this]
            rfl)
          rw [hz] at hck
          clear hq hz
          go_wp2
          go_roundw
          case rel => exact ⟨k + 1, by omega, by go_num, HF, by first | trivial | rfl⟩
          case measure => first | (simp [intOf]; done) | (simp [intOf]; omega)
      · have HF : Hid (R = -1) := HR.out.trans (restF_end (by rw [HN.out]; omega))
        go_wp2
        go_ret
        exact ⟨by rw [HF.out]; rfl, rfl⟩
end Go.Proofs.YtfcmnkhfmofioaaDoor
