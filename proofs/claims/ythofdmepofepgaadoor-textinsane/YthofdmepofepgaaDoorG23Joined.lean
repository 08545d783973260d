/- The first of two texts that is one. Conditions: none. How package textin reads the words of a line, one by one. Conditions: the listed variables hold what the program's text lays; at most 5000 words of at most 140737488351232 bytes. -/
import Derived.Test.YthofdmepofepgaaDoorG03Joined
import Derived.Test.YthofdmepofepgaaDoorByteKit
import Derived.Test.YthofdmepofepgaaDoorTextL
namespace Go.Proofs.YthofdmepofepgaaDoor
set_option linter.unusedVariables false
open Go.RowKit

theorem two_new {e : TypeId} (w : World) (x y : Value) : (w.alloc (.cells #[x, y] e)).cell? ⟨w.heap.size, 0, none⟩ = some x ∧ (w.alloc (.cells #[x, y] e)).cell? ⟨w.heap.size, 1, none⟩ = some y := by
  have h := World.alloc_heap_new w (.cells #[x, y] e)
  exact ⟨by unfold World.cell?; rw [h]; rfl, by unfold World.cell?; rw [h]; rfl⟩
set_option maxRecDepth 100000 in
set_option maxHeartbeats 2000000 in
theorem or_any {w : World} {b : Nat} {f r : List UInt8} (h0 : w.cell? ⟨b, 0, none⟩ = some (.string (mkB f))) (h1 : w.cell? ⟨b, 1, none⟩ = some (.string (mkB r))) : Calls Tryd.prog 35 #[.slice (some ⟨b, 0, none⟩) 2 2] w fun e w' => e = .returned (.string (mkB (if f = [] then r else f))) ∧ w = w' := by
  cases f with
  | cons x f =>
    rw [if_neg (by simp)]
    simp only [mkB] at *
    go_enter Tryd.func35, Tryd.ntmps35
    go_wp2
    go_loop [8] (fun i => i = .int .i64 0) (fun _ => 0)
    case atStart => rfl
    case round =>
      subst hrel
      go_wp2
      go_ret
      exact ⟨rfl, rfl⟩
  | nil =>
    rw [if_pos rfl]
    simp only [mkB] at *
    cases r with
    | nil =>
      go_enter Tryd.func35, Tryd.ntmps35
      go_wp2
      go_loop [8] (fun i => i = .int .i64 0 ∨ i = .int .i64 1 ∨ i = .int .i64 2) (fun i => 2 - (intOf i).toNat)
      case atStart => exact .inl rfl
      case round =>
        rcases hrel with rfl | rfl | rfl
        · go_wp2
          go_round
          case rel => exact .inr (.inl (by go_num))
          case measure => simp [intOf]
        · go_wp2
          go_round
          case rel => exact .inr (.inr (by go_num))
          case measure => simp [intOf]
        · go_wp2
          go_ret
          exact ⟨rfl, rfl⟩
    | cons x r =>
      go_enter Tryd.func35, Tryd.ntmps35
      go_wp2
      go_loop [8] (fun i => i = .int .i64 0 ∨ i = .int .i64 1) (fun i => 2 - (intOf i).toNat)
      case atStart => exact .inl rfl
      case round =>
        rcases hrel with rfl | rfl
        · go_wp2
          go_round
          case rel => exact .inr (by go_num)
          case measure => simp [intOf]
        · go_wp2
          go_ret
          exact ⟨rfl, rfl⟩
end Go.Proofs.YthofdmepofepgaaDoor

namespace Go.Proofs.YthofdmepofepgaaDoor
set_option linter.unusedVariables false
open Go.RowKit

section
variable {wB w w' : World} {n0 D : Nat} {d : Dv} {k : Nat} {x : List UInt8}
theorem IsRd.at_ {v : Value} (h : IsRd w n0 D k v) (hn : n0 ≤ w.heap.size) (hg : GD n0 D w w') : IsRd w' n0 D k v := by
  rcases h with h | h | ⟨h1, h2, g, f, p, q, h3, B⟩
  · exact .inl h
  · exact .inr (.inl h)
  · exact .inr (.inr ⟨h1, h2, g, f, p, q, h3, B.on hn hg⟩)
theorem runR_step {ks : List Nat} {ws : List (List UInt8)} {j : Nat} (h1 : j < ks.length) (h2 : j < ws.length) (d : Dv) (f : List UInt8) : runR (ks.drop j) (ws.drop j) d f = runR (ks.drop (j + 1)) (ws.drop (j + 1)) (readW ks[j] d ws[j]).1 (if f = [] then (readW ks[j] d ws[j]).2 else f) := by
  rw [List.drop_eq_getElem_cons h1, List.drop_eq_getElem_cons h2]
  rfl
theorem runR_end {ks : List Nat} {ws : List (List UInt8)} {j : Nat} (h1 : ks.length ≤ j) (d : Dv) (f : List UInt8) : runR (ks.drop j) (ws.drop j) d f = (d, f) := by
  rw [List.drop_eq_nil_of_le h1]
  rfl
theorem readW_keys (k : Nat) (d : Dv) (x : List UInt8) : (readW k d x).1.keys.length ≤ d.keys.length + 1 := by
  unfold readW keepK
  repeat' split
  all_goals simp
/-- How a reading is called, and what comes of it. -/
def CallsRd (wB : World) (n0 D k : Nat) (d : Dv) (x : List UInt8) (w : World) (v : Value) : Prop :=
  (v = .func (.func 44) #[.pointer (some ⟨D, 0, none⟩)] #[] ∧ Calls Tryd.prog 44 #[.pointer (some ⟨D, 0, none⟩), .string (mkB x)] w fun e w' => ReadEnd wB n0 D w (readW k d x) e w') ∨
  (v = .func (.func 42) #[.pointer (some ⟨D, 0, none⟩)] #[] ∧ Calls Tryd.prog 42 #[.pointer (some ⟨D, 0, none⟩), .string (mkB x)] w fun e w' => ReadEnd wB n0 D w (readW k d x) e w') ∨
  (∃ g f p, v = .func (.func 53) #[] #[.pointer (some ⟨g, 0, none⟩), .pointer (some ⟨f, 0, none⟩), .pointer (some ⟨p, 0, none⟩)] ∧ Calls Tryd.prog 53 #[.string (mkB x), .pointer (some ⟨g, 0, none⟩), .pointer (some ⟨f, 0, none⟩), .pointer (some ⟨p, 0, none⟩)] w fun e w' => ReadEnd wB n0 D w (readW k d x) e w')
theorem IsRd.calls {v : Value} (h : IsRd w n0 D k v) (hL : Laid wB) (H : Dr wB n0 D w d) (hk : d.keys.length ≤ 100000) (hx : x.length ≤ 140737488351232) : CallsRd wB n0 D k d x w v := by
  rcases h with ⟨rfl, h⟩ | ⟨rfl, h⟩ | ⟨h1, h2, g, f, p, q, h3, B⟩
  · exact .inl ⟨h, tkey_any H hk⟩
  · exact .inr (.inl ⟨h, exp_any hL H hx⟩)
  · refine .inr (.inr ⟨g, f, p, h3, ?_⟩)
    obtain rfl | rfl | rfl | rfl : k = 2 ∨ k = 3 ∨ k = 4 ∨ k = 5 := by omega
    · exact dec2_any hL H B hx
    · exact dec3_any hL H B hx
    · exact dec4_any hL H B hx
    · exact dec5_any hL H B hx
/-- What read does. -/
def ReadsEnd (wB : World) (D : Nat) (w : World) (r : Dv × List UInt8) (e : Ending) (w' : World) : Prop := e = .returned (.string (mkB r.2)) ∧ (∃ n1, Dr wB n1 D w' r.1) ∧ Gr (fun k => k = D) w w'
set_option maxRecDepth 100000 in
set_option maxHeartbeats 2000000 in
theorem read_nil (H : Dr wB n0 D w zeroD) (a : Option Addr) (cap : Nat) : Calls Tryd.prog 23 #[.pointer (some ⟨D, 0, none⟩), .slice a 0 cap] w fun e w' => ReadsEnd wB D w (zeroD, t_ERROR) e w' := by
  have HH := hide H
  clear H
  go_enter Tryd.func23, Tryd.ntmps23
  go_wp2
  go_ret
  exact ⟨rfl, ⟨_, HH.out⟩, Gr.refl _ _⟩
theorem gd_gr {n : Nat} (h : GD n D w w') (hn : w.heap.size ≤ n) : Gr (fun k => k = D) w w' := ⟨h.os, h.tape, h.output, h.size, fun k hk hne => h.block k hk (by omega)⟩
variable {a : Option Addr} {len cap : Nat} {ws : List (List UInt8)}
set_option maxRecDepth 100000 in
set_option maxHeartbeats 2000000 in
theorem read_none (H : Dr wB w.heap.size D w zeroD) (hW : Wu (fun b => b ≠ D) w a len cap (x :: ws)) (hop : opN x = none) : Calls Tryd.prog 23 #[.pointer (some ⟨D, 0, none⟩), .slice a len cap] w fun e w' => ReadsEnd wB D w (begun x, t_ERROR) e w' := by
  have hn := hW.n
  rw [List.length_cons] at hn
  have hp : ¬ (len : Int) = 0 := by omega
  have hp2 : (0 : Int) < (len : Int) := by omega
  obtain ⟨b, off, rfl, c0⟩ := hW.get (i := 0) (by omega)
  simp only [Nat.add_zero, List.getElem_cons_zero] at c0
  have HB := hide (begin_any H x)
  rw [hop] at HB
  clear H hW hn hop
  go_enter Tryd.func23, Tryd.ntmps23
  go_wp2_with (go_at_call 32; refine HB.out.mono ?_; rintro e w1 ⟨rfl, K1, G1⟩)
  go_ret
  exact ⟨rfl, ⟨_, K1⟩, gd_gr G1 (Nat.le_refl _)⟩
end
end Go.Proofs.YthofdmepofepgaaDoor
