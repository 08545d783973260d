/- The first of two texts that is one, and the words of a line, gathered. Conditions: none. -/
import Derived.Test.YtbpfgakcdainlaaDoorTextL
namespace Go.Proofs.YtbpfgakcdainlaaDoor
set_option linter.unusedVariables false
open Go.RowKit

theorem two_new {e : TypeId} (w : World) (x y : Value) : (w.alloc (.cells #[x, y] e)).cell? ⟨w.heap.size, 0, none⟩ = some x ∧ (w.alloc (.cells #[x, y] e)).cell? ⟨w.heap.size, 1, none⟩ = some y := by
  have h := World.alloc_heap_new w (.cells #[x, y] e)
  exact ⟨by unfold World.cell?; rw [h]; rfl, by unfold World.cell?; rw [h]; rfl⟩
set_option maxRecDepth 100000 in
set_option maxHeartbeats 2000000 in
theorem or_any {w : World} {b : Nat} {f r : List UInt8} (h0 : w.cell? ⟨b, 0, none⟩ = some (.string (mkB f))) (h1 : w.cell? ⟨b, 1, none⟩ = some (.string (mkB r))) : Calls Tryd.prog 34 #[.slice (some ⟨b, 0, none⟩) 2 2] w fun e w' => e = .returned (.string (mkB (if f = [] then r else f))) ∧ w = w' := by
  cases f with
  | cons x f =>
    rw [if_neg (by simp)]
    simp only [mkB] at *
    go_enter Tryd.func34, Tryd.ntmps34
    go_wp2
    go_loop [8] (fun i => i = .int .i64 0) (fun _ => 0)
    case atStart => rfl
    case round =>
      subst hrel
      go_wp2
      go_ret
      exact ⟨rfl, rfl⟩
  | nil =>
    rw [if_pos rfl]
    simp only [mkB] at *
    cases r with
    | nil =>
      go_enter Tryd.func34, Tryd.ntmps34
      go_wp2
      go_loop [8] (fun i => i = .int .i64 0 ∨ i = .int .i64 1 ∨ i = .int .i64 2) (fun i => 2 - (intOf i).toNat)
      case atStart => exact .inl rfl
      case round =>
        rcases hrel with rfl | rfl | rfl
        · go_wp2
          go_round
          case rel => exact .inr (.inl (by go_num))
          case measure => simp [intOf]
        · go_wp2
          go_round
          case rel => exact .inr (.inr (by go_num))
          case measure => simp [intOf]
        · go_wp2
          go_ret
          exact ⟨rfl, rfl⟩
    | cons x r =>
      go_enter Tryd.func34, Tryd.ntmps34
      go_wp2
      go_loop [8] (fun i => i = .int .i64 0 ∨ i = .int .i64 1) (fun i => 2 - (intOf i).toNat)
      case atStart => exact .inl rfl
      case round =>
        rcases hrel with rfl | rfl
        · go_wp2
          go_round
          case rel => exact .inr (by go_num)
          case measure => simp [intOf]
        · go_wp2
          go_ret
          exact ⟨rfl, rfl⟩
end Go.Proofs.YtbpfgakcdainlaaDoor
