/- The document's own Parse of the binary dialect. Conditions: none. -/
import Derived.Test.YtegaljpllcgaaaaG35Joined
import Derived.Test.YtegaljpllcgaaaaBinRN
import Derived.Test.YtegaljpllcgaaaaG34Joined
import Derived.Test.YtegaljpllcgaaaaBinSaneM
namespace Go.Proofs.Ytegaljpllcgaaaa
set_option linter.unusedVariables false
open Go.RowKit

theorem rbin_any {w : World} {a : Option Addr} {len cap : Nat} {b : List UInt8} (h : Bu w a len cap b) : Calls Try.prog 12 #[.slice a len cap] w fun e w' => BinE (parse16 b) w e w' := by
  have hn := h.n
  have hc := h.c
  by_cases h0 : len = 0
  · subst h0
    have e : parse16 b = bareB 3 := by
      unfold parse16
      have : measN b = (0, 3) := by unfold measN; rw [if_pos hn]
      rw [this, if_pos (by decide)]
    rw [e]
    exact bin_empty
  · obtain ⟨g, off, rfl⟩ : ∃ g off, a = some ⟨g, off, none⟩ := by
      rcases h.b with ⟨h1, _, _⟩ | ⟨g, off, r⟩
      · omega
      · exact ⟨g, off, r.at_⟩
    have hl : 0 < b.length := by omega
    have g1 : ∀ i (hi : i < b.length), b.getD i 0 = b[i] := fun i hi => by rw [List.getD_eq_getElem?_getD, List.getElem?_eq_getElem hi]; rfl
    by_cases h1 : ((b[0]).toNat : Int) = 128
    · have h1' : ((b.getD 0 0).toNat : Int) = 128 := by rw [g1 0 hl]; exact h1
      by_cases h2 : len < 24
      · have e : parse16 b = bareB 3 := by
          unfold parse16
          have : measN b = (0, 3) := by unfold measN; rw [if_neg (by omega), if_neg (by rw [h1']; decide), if_pos (by omega)]
          rw [this, if_pos (by decide)]
        rw [e]
        exact bin_short h hl h1 h2
      · by_cases h3 : 2048 < getB b 8 4
        · have e : parse16 b = bareB 9 := by
            unfold parse16
            have : measN b = (0, 9) := by unfold measN; rw [if_neg (by omega), if_neg (by rw [h1']; decide), if_neg (by omega), if_pos h3]
            rw [this, if_pos (by decide)]
          rw [e]
          exact bin_long h hl h1 (by omega) h3
        · by_cases h4 : (len : Int) < 24 + getB b 8 4
          · have e : parse16 b = bareB 3 := by
              unfold parse16
              have : measN b = (0, 3) := by unfold measN; rw [if_neg (by omega), if_neg (by rw [h1']; decide), if_neg (by omega), if_neg h3, if_pos (by rw [hn]; exact h4)]
              rw [this, if_pos (by decide)]
            rw [e]
            exact bin_wait h hl h1 (by omega) (by omega) h4
          · rcases meas_cases b with e | e | ⟨e, h24, _, hL, hfit⟩
            · exfalso
              unfold measN at e
              rw [if_neg (by omega), if_neg (by rw [h1']; decide), if_neg (by omega), if_neg h3, if_neg (by rw [hn]; exact h4)] at e
              simp at e
            · exfalso
              unfold measN at e
              rw [if_neg (by omega), if_neg (by rw [h1']; decide), if_neg (by omega), if_neg h3, if_neg (by rw [hn]; exact h4)] at e
              simp at e
            · have HD := head_of h h24 h1 hL (by omega)
              have ec : ((b[1]'(by omega)).toNat : Int) = by1 b := by unfold by1; rw [g1 1 (by omega)]
              have ex : ((b[4]'(by omega)).toNat : Int) = by4 b := by unfold by4; rw [g1 4 (by omega)]
              rw [ec, ex] at HD
              have hsb : stB b = statusN (ofN (by1 b)) (by4 b) (getB b 2 2) (getB b 8 4) := rfl
              by_cases hst : stB b = 0
              · have k0 := HD.k0
                have l0 := HD.l0
                have x0 := HD.x0
                obtain ⟨l, hl_⟩ : ∃ l : Nat, getB b 8 4 = (l : Int) := ⟨(getB b 8 4).toNat, by omega⟩
                obtain ⟨k, hk_⟩ : ∃ k : Nat, getB b 2 2 = (k : Int) := ⟨(getB b 2 2).toNat, by omega⟩
                obtain ⟨x, hx_⟩ : ∃ x : Nat, by4 b = (x : Int) := ⟨(by4 b).toNat, by omega⟩
                have ep : parse16 b = reqB (by1 b) (getB b 12 4) b x k (l - x - k) := by
                  unfold parse16
                  rw [e, if_neg (by simp), if_neg (by simpa using hst), hx_, hk_, hl_]
                  congr 1
                  omega
                rw [hx_, hk_, hl_] at HD hsb
                have hs0 : statusN (ofN (by1 b)) x k l = 0 := by rw [← hsb]; exact hst
                have F := fine_of (by omega) hs0
                have T := tab_of HD.c0 HD.c1 F.op
                rw [ep]
                have hh : (ofN (by1 b)).key = true ∧ (ofN (by1 b)).val = true ∨ (ofN (by1 b)).key = true ∧ (ofN (by1 b)).val = false ∨ (ofN (by1 b)).key = false ∧ (ofN (by1 b)).val = false := by
                  unfold TabN at T
                  rcases T with ⟨_, _, t1, t2⟩ | ⟨_, _, t1, t2⟩ | ⟨_, _, t1, t2⟩ | ⟨_, _, t1, t2⟩ | ⟨_, _, t1, t2⟩ | ⟨_, _, t1, t2⟩ | ⟨_, _, t1, t2⟩ <;> simp [t1, t2]
                rcases hh with ⟨q1, q2⟩ | ⟨q1, q2⟩ | ⟨q1, q2⟩
                · exact bin_v h HD hs0 q2 q1
                · exact bin_k h HD hs0 q2 q1
                · exact bin_n h HD hs0 q2 q1
              · have ep : parse16 b = faultB (by1 b) (stB b) (getB b 12 4) (24 + getB b 8 4) := by
                  unfold parse16
                  rw [e, if_neg (by simp), if_pos hst]
                rw [ep, hsb]
                exact bin_fault HD (by rw [← hsb]; exact hst)
    · have e : parse16 b = bareB 9 := by
        unfold parse16
        have : measN b = (0, 9) := by unfold measN; rw [if_neg (by omega), g1 0 hl, if_pos h1]
        rw [this, if_pos (by decide)]
      rw [e]
      exact bin_other h hl h1
end Go.Proofs.Ytegaljpllcgaaaa
