/- What the document's own sketch answers: its counters stand in a row of 256 numbers. Conditions: texts take at most 140737488351232 bytes. -/
import Derived.Test.YtpjmhiokhoplmaaSketchCon
import Derived.Test.YtpjmhiokhoplmaaHashRef
import Derived.Laws.Tables
import Derived.Laws.Rows
import Derived.Deep.QuietTactic
import Derived.BigQuiet
namespace Go.Proofs.Ytpjmhiokhoplmaa
open Go.RowKit

/-- Counters as cells. -/
def cellsI (C : List Nat) : Array Value := (C.map fun x : Nat => Value.int .i64 (x : Int)).toArray
/-- The document's sketch at block c, its counters at block g. -/
structure RSk (w : World) (c g sd : Nat) (st : St) : Prop where
  head : w.heap[c]? = some (.cells #[.int .u64 sd, .slice (some ⟨g, 0, none⟩) 256 256, .int .i64 st.2] 64 (0, 0))
  row : w.heap[g]? = some (.cells (cellsI st.1) 3 (0, 0))
  len : st.1.length = 256
  ne : c ≠ g
theorem RSk.seed {w : World} {c g sd : Nat} {st : St} (h : RSk w c g sd st) : w.cell? ⟨c, 0, none⟩ = some (.int .u64 sd) := by simp [World.cell?, h.head]
theorem RSk.slice {w : World} {c g sd : Nat} {st : St} (h : RSk w c g sd st) : w.cell? ⟨c, 1, none⟩ = some (.slice (some ⟨g, 0, none⟩) 256 256) := by simp [World.cell?, h.head]
theorem RSk.age {w : World} {c g sd : Nat} {st : St} (h : RSk w c g sd st) : w.cell? ⟨c, 2, none⟩ = some (.int .i64 st.2) := by simp [World.cell?, h.head]
theorem RSk.free {w : World} {c g sd : Nat} {st : St} (h : RSk w c g sd st) : w.frozen? ⟨c, 2, none⟩ = false := by simp [World.frozen?, h.head]
theorem RSk.freeRow {w : World} {c g sd : Nat} {st : St} (h : RSk w c g sd st) (p : Nat) : w.frozen? ⟨g, p, none⟩ = false := frozen_of_row w g p _ _ h.row
theorem RSk.at {w : World} {c g sd : Nat} {st : St} (h : RSk w c g sd st) (p : Nat) (hp : p < 256) : w.cell? ⟨g, p, none⟩ = some (.int .i64 (st.1.getD p 0)) := by
  have hl : p < st.1.length := by rw [h.len]; exact hp
  rw [cell_of_row w g p _ _ _ h.row]
  simp [cellsI, hl, List.getD]
theorem RSk.drewN {w : World} {c g sd : Nat} {st : St} (h : RSk w c g sd st) (k : Nat) : RSk (w.drewN k) c g sd st := ⟨h.head, h.row, h.len, h.ne⟩

set_option maxHeartbeats 1000000 in
theorem rplace_any {w : World} {c g sd : Nat} {st : St} (hR : RSk w c g sd st) (s : ByteArray) (hs : s.size ≤ 140737488351232) (k : Nat) (hk : k < 4) :
    Calls Try.prog 41 #[.pointer (some ⟨c, 0, none⟩), .string s, .int .i64 k] w fun e w' => e = .returned (.int .i64 (plc sd s.data.toList k)) ∧ w = w' := by
  obtain ⟨z, hz⟩ : ∃ z : Nat, z = (sd + k) % 18446744073709551616 := ⟨_, rfl⟩
  have hzl : z < 18446744073709551616 := by omega
  have hseed := hR.seed
  have HW : Hid (IntKind.u64.wrap ((sd : Int) + (k : Int)) = (z : Int)) := by
    rw [hz, IntKind.wrap_u64]
    show ((sd : Int) + (k : Int)) % 18446744073709551616 = _
    omega
  obtain ⟨y, hy⟩ : ∃ y : Nat, y = ofN z s.data.toList % 64 := ⟨_, rfl⟩
  have hy64 : (y : Int) < 64 := by omega
  have HP : Hid (belowN (ofN z s.data.toList) 64 = (y : Int)) := by
    unfold belowN
    rw [hy, if_neg (by decide)]
    show _ = _
    omega
  have HL : Hid (plc sd s.data.toList k = k * 64 + y) := by
    show _ = _
    unfold plc
    rw [hy, hz]
  have ho := of_lt z s.data.toList
  have hk4 : (k : Int) < 4 := by omega
  clear hz hy
  go_enter Try.func41, Try.ntmps41
  go_wp2_with (first
    | (go_at_call 47; rw [HW.out]; refine (rof_any z hzl s hs _).mono ?_; rintro e w1 ⟨rfl, rfl⟩)
    | (go_at_call 46; refine (rbelow_any _ ho 64 (by decide) (by decide) _).mono ?_; rintro e w1 ⟨he, rfl⟩; rw [HP.out] at he; subst he))
  go_ret
  refine ⟨?_, rfl⟩
  rw [HL.out]
  go_num
theorem index_row (g p : Nat) (h : (p : Int) < 256) (W : World) : (Instr.indexAt 46 (.slice (some ⟨g, 0, none⟩) 256 256) (.int .i64 (p : Int))).run Try.prog W = .ok (.pointer (some ⟨g, p, none⟩)) W := by
  go_simp
theorem zero_row : cellsI (List.replicate 256 0) = Array.replicate 256 (.int .i64 0) := by
  unfold cellsI
  rw [List.map_replicate, List.toArray_replicate]
  rfl
theorem make_row (w : World) : (Instr.makeSlice 46 (.int .i64 256) (.int .i64 256)).run Try.prog w = .ok (.slice (some ⟨w.heap.size, 0, none⟩) 256 256) (w.alloc (.cells (Array.replicate 256 (.int .i64 0)) 3)) := by kernel_rfl
set_option maxHeartbeats 1000000 in
theorem rnew_any (sd : Nat) (w : World) : Calls Try.prog 21 #[.int .u64 sd] w fun e w' => e = .returned (.pointer (some ⟨w.heap.size + 1, 0, none⟩)) ∧ RSk w' (w.heap.size + 1) w.heap.size sd fresh ∧ w.grownBy w' none := by
  have hmk := make_row
  obtain ⟨R, eR⟩ : ∃ R, R = Array.replicate 256 (Value.int .i64 0) := ⟨_, rfl⟩
  have HR : Hid (cellsI fresh.1 = R) := by
    show _ = _
    rw [eR]
    exact zero_row
  rw [← eR] at hmk
  clear eR
  have h1 := heap_alloc2_new w (.cells R 3) (.cells #[.int .u64 sd, .slice (some ⟨w.heap.size, 0, none⟩) 256 256, .int .i64 0] 64)
  have h2 := heap_alloc2_old w (.cells R 3) (.cells #[.int .u64 sd, .slice (some ⟨w.heap.size, 0, none⟩) 256 256, .int .i64 0] 64)
  have H1 := hide h1
  have H2 := hide h2
  clear h1 h2
  go_enter Try.func21, Try.ntmps21
  go_wp2
  go_ret
  refine ⟨rfl, ⟨H1.out, ?_, List.length_replicate, by omega⟩, gr_trans (World.grownBy_alloc _ _ _) (World.grownBy_alloc _ _ _)⟩
  rw [HR.out]
  exact H2.out

theorem drewN_more {w v : World} (h : ∃ d, v = w.drewN d) (q : Nat) : ∃ d, v.drewN q = w.drewN d := by
  obtain ⟨d, rfl⟩ := h
  exact ⟨d + q, World.drewN_drewN _ _ _⟩
/-- The least of the first places. -/
def cntTo (C ps : List Nat) (k : Nat) : Nat := cnt C (ps.take k)
theorem take_plcs (sd : Nat) (l : List UInt8) (k : Nat) (h : k < 4) : (plcs sd l).take (k + 1) = (plcs sd l).take k ++ [plc sd l k] := by
  have : k = 0 ∨ k = 1 ∨ k = 2 ∨ k = 3 := by omega
  rcases this with rfl | rfl | rfl | rfl <;> rfl
theorem cntTo_succ (C : List Nat) (sd : Nat) (l : List UInt8) (k : Nat) (h : k < 4) : cntTo C (plcs sd l) (k + 1) = min (cntTo C (plcs sd l) k) (C.getD (plc sd l k) 0) := by
  unfold cntTo cnt
  rw [take_plcs sd l k h, List.foldl_append]
  rfl
theorem plc_lt (sd : Nat) (l : List UInt8) (k : Nat) (h : k < 4) : plc sd l k < 256 := by
  have := (plc_row sd l k).2
  omega
set_option maxRecDepth 100000 in
set_option maxHeartbeats 2000000 in
theorem rcount_any {w : World} {c g sd : Nat} {st : St} (hR : RSk w c g sd st) (s : ByteArray) (hs : s.size ≤ 140737488351232) :
    Calls Try.prog 31 #[.pointer (some ⟨c, 0, none⟩), .string s] w fun e w' => e = .returned (.int .i64 (cnt st.1 (plcs sd s.data.toList))) ∧ ∃ d, w' = w.drewN d := by
  go_enter Try.func31, Try.ntmps31
  go_wp2
  go_loopw [5, 6] (fun n i wr => ∃ (k m : Nat), k ≤ 4 ∧ i = .int .i64 k ∧ n = .int .i64 m ∧ m ≤ 15 ∧ Hid (m = cntTo st.1 (plcs sd s.data.toList) k) ∧ RSk wr c g sd st ∧ Hid (∃ d, wr = w.drewN d)) (fun _ i _ => 4 - (intOf i).toNat)
  case atStart => exact ⟨0, 15, by omega, rfl, rfl, by omega, rfl, hR, 0, rfl⟩
  case round =>
    clear hR
    obtain ⟨k, m, hk, rfl, rfl, hm, HM, hRd, HD⟩ := hrel
    by_cases hlt : k < 4
    · have hp := plc_lt sd s.data.toList k hlt
      have hsl := hRd.slice
      have hat := hRd.at _ hp
      have HS := hide (cntTo_succ st.1 sd s.data.toList k hlt)
      have HC : ∀ q : Nat, Calls Try.prog 41 #[.pointer (some ⟨c, 0, none⟩), .string s, .int .i64 k] (wr.drewN q) fun e w' => e = .returned (.int .i64 (plc sd s.data.toList k)) ∧ w' = wr.drewN q := fun q => (rplace_any (hRd.drewN q) s hs k hlt).mono fun _ _ h => ⟨h.1, h.2.symm⟩
      have hix := index_row g (plc sd s.data.toList k) (by omega)
      generalize plc sd s.data.toList k = p at *
      generalize st.1.getD p 0 = x at *
      clear hp
      by_cases hxm : x < m
      · have hxi : (x : Int) < (m : Int) := by omega
        have HM2 : Hid (x = cntTo st.1 (plcs sd s.data.toList) (k + 1)) := by
          show _ = _
          rw [HS.out, ← HM.out]
          omega
        clear HM HS
        go_wp2
        go_quiet ((go_at_call 41; exact Calls.quiet_of_same (HC _)))
        go_wp2
        go_roundw
        case rel => exact ⟨k + 1, x, by omega, by go_num, rfl, by omega, HM2, hRd.drewN nq, drewN_more HD.out nq⟩
        case measure => simp [intOf]; omega
      · have hxi : (m : Int) ≤ (x : Int) := by omega
        have HM2 : Hid (m = cntTo st.1 (plcs sd s.data.toList) (k + 1)) := by
          show _ = _
          rw [HS.out, ← HM.out]
          omega
        clear HM HS
        go_wp2
        go_quiet ((go_at_call 41; exact Calls.quiet_of_same (HC _)))
        go_wp2
        go_roundw
        case rel => exact ⟨k + 1, m, by omega, by go_num, rfl, by omega, HM2, hRd.drewN nq, drewN_more HD.out nq⟩
        case measure => simp [intOf]; omega
    · obtain rfl : k = 4 := by omega
      go_wp2
      go_ret
      exact ⟨by rw [HM.out]; rfl, HD.out⟩
end Go.Proofs.Ytpjmhiokhoplmaa
