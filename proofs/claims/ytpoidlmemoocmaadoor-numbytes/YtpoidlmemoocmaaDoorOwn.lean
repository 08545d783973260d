/- What Get of package num answers of a slice that the call itself made. Conditions: the slice has one to eight bytes. -/
import Derived.Test.YtpoidlmemoocmaaDoorMath
import Derived.Test.YtpoidlmemoocmaaDoorAwake
namespace Go.Proofs.YtpoidlmemoocmaaDoor
open Go.RowKit

theorem get_own {w : World} {base g n cap : Nat} {zs : List Int} (ho : w.ownsRow base 5 1 (.slice (some ⟨g, 0, none⟩) n cap) n (zs.map (Value.int .u8))) (hz : ∀ z ∈ zs, 0 ≤ z ∧ z ≤ 255) (h1 : 1 ≤ n) (h8 : n ≤ 8) :
    Calls Tryd.prog 20 #[.slice (some ⟨g, 0, none⟩) n cap] w fun e w' => e = .returned (.int .u64 (num8 zs)) ∧ w' = w := by
  have hn : zs.length = n := by have := ho.1; simpa using this
  have hcap : n ≤ cap := by
    rcases ho.2 with ⟨h, _⟩ | ⟨g', cap', cur, h, _, _, hc, _⟩
    · cases h
    · cases h; exact hc
  have h := get_any g 0 n cap zs hn (by omega) hcap hz w (fun i hi => by
    rw [Nat.zero_add, ho.cellAt i (by omega), List.getElem?_map, List.getElem?_eq_getElem (by omega)]
    simp [List.getD, List.getElem?_eq_getElem (show i < zs.length by omega)]) h1
  rw [show n - 8 = 0 by omega] at h
  exact h
end Go.Proofs.YtpoidlmemoocmaaDoor
