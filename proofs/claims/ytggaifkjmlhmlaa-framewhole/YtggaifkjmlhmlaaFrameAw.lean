/- The chapter's examples hold. Conditions: none. -/
import Derived.Test.YtggaifkjmlhmlaaFrameG
import Derived.Test.YtggaifkjmlhmlaaFrameH
import Derived.Deep.RegionWith
import Derived.Lib.SlBytesConst
namespace Go.Proofs.Ytggaifkjmlhmlaa
open Go.RowKit

/-- Bytes that are written out lie in a new row. -/
theorem lit_bu (w : World) (l : List UInt8) (fz : Nat × Nat) (h1 : 1 ≤ l.length) (h2 : l.length ≤ 1000) : Bu (w.alloc (.cells (byU l).toArray 5 fz)) (some ⟨w.heap.size, 0, none⟩) l.length l.length l := by
  have hh : (w.alloc (Obj.cells (byU l).toArray 5 fz)).heap[w.heap.size]? = some (Obj.cells (byU l).toArray 5 fz) := by
    show (w.heap.push _)[w.heap.size]? = _
    simp
  refine ⟨rfl, .inr ⟨w.heap.size, 0, rfl, h1, Nat.le_refl _, ints_len l, ints_byt l, fun i hi => ?_, by simp⟩, Nat.le_refl _, by unfold maxLen; omega⟩
  unfold World.cell?
  rw [hh, Nat.zero_add]
  show (byU l).toArray[i]? = _
  rw [List.getElem?_toArray, byU_get hi]
theorem line_ab (w : World) : Calls Try.prog 10 #[.slice (some ⟨w.heap.size, 0, none⟩) 5 5] (w.alloc (.cells #[.int .u8 97, .int .u8 98, .int .u8 13, .int .u8 10, .int .u8 99] 5 (5, 6))) fun e w' => e = .returned (.tuple #[.string ⟨#[97, 98]⟩, .int .i64 4, .int .i64 0]) ∧ Hid (w.grownBy w' none) := by
  have h := line_any (lit_bu w [97, 98, 13, 10, 99] (5, 6) (by decide) (by decide))
  refine Calls.mono h fun e w' ⟨h1, h2⟩ => ⟨h1, gr_trans (World.grownBy_alloc w _ none) h2⟩
theorem body_ab (w : World) : Calls Try.prog 12 #[.slice (some ⟨w.heap.size, 0, none⟩) 5 5, .int .i64 2] (w.alloc (.cells #[.int .u8 97, .int .u8 98, .int .u8 120, .int .u8 13, .int .u8 10] 5 (5, 6))) fun e w' => ∃ a c, e = .returned (.tuple #[.slice a 0 c, .int .i64 2, .int .i64 2]) ∧ Hid (w.grownBy w' none) := by
  have h := body_any (lit_bu w [97, 98, 120, 13, 10] (5, 6) (by decide) (by decide)) 2 (by decide)
  refine Calls.mono h fun e w' h => ?_
  obtain ⟨a, c, h1, _, h3⟩ := h
  exact ⟨a, c, h1, gr_trans (World.grownBy_alloc w _ none) h3⟩
theorem pass_ab (w : World) : Calls Try.prog 18 #[.slice (some ⟨w.heap.size, 0, none⟩) 4 4, .int .i64 1, .bool true] (w.alloc (.cells #[.int .u8 97, .int .u8 98, .int .u8 10, .int .u8 99] 5 (4, 5))) fun e w' => e = .returned (.tuple #[.int .i64 3, .int .i64 0, .bool false]) ∧ Hid (w.grownBy w' none) := by
  have h := pass_any (lit_bu w [97, 98, 10, 99] (4, 5) (by decide) (by decide)) 1 (by decide) true
  refine Calls.mono h fun e w' ⟨h1, h2⟩ => ⟨h1, ?_⟩
  subst h2
  exact World.grownBy_alloc w _ none
theorem key_ab (w : World) : Calls Try.prog 14 #[.string ⟨#[97]⟩] w fun e w' => e = .returned (.bool true) ∧ w = w' := key_any ⟨#[97]⟩ w
set_option maxRecDepth 100000 in
set_option maxHeartbeats 1000000 in
theorem awake_any (w : World) : Calls Try.prog 9 #[] w fun e w' => e = .returned (.bool true) ∧ w.grownBy w' none := by
  have kc := fun (w : World) (C : Array Value) (n c : Nat) => Lib.run_convert_bytes_const (P := Try.prog) w 22 5 C n c Try.underlying22 Try.underlying5
  go_enter Try.func9, Try.ntmps9
  go_wp2_with (first
    | (go_at_call 10; refine (line_ab _).mono ?_; rintro e w1 ⟨rfl, g1⟩)
    | (go_at_call 12; refine (body_ab _).mono ?_; rintro e w2 ⟨a1, c1, rfl, g2⟩)
    | (go_at_call 18; refine (pass_ab _).mono ?_; rintro e w3 ⟨rfl, g3⟩)
    | (go_at_call 14; refine (key_ab _).mono ?_; rintro e w4 ⟨rfl, rfl⟩))
  go_ret
  exact ⟨rfl, gr_trans g1.out (gr_trans g2.out g3.out)⟩
end Go.Proofs.Ytggaifkjmlhmlaa
