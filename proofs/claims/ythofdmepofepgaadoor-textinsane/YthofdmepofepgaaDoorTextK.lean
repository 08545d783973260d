/- How package textin reads the words behind a first one. Conditions: at most 5000 words. -/
import Derived.Test.YthofdmepofepgaaDoorTextJ
namespace Go.Proofs.YthofdmepofepgaaDoor
set_option linter.unusedVariables false
open Go.RowKit

section
variable {Q : Nat → Prop} {w : World} {n0 D : Nat} {d : Dv} {ka va : Option Addr} {c vc : Nat} {t : TypeId} {a : Option Addr} {len cap : Nat} {ws : List (List UInt8)}
theorem PartsEnd.up {W w' : World} {ks : List Nat} {e : Ending} (h : PartsEnd D ks W e w') (hg : w.grownBy W none) : PartsEnd D ks w e w' := by
  obtain ⟨v, xs, h1, h2, h3, h4⟩ := h
  exact ⟨v, xs, h1, ⟨h2.1, h2.2.imp id fun ⟨g, cp, cur, a1, a2, a3⟩ => ⟨g, cp, cur, a1, Nat.le_trans hg.size a2, a3⟩⟩, h3, gr_trans hg h4⟩
theorem PartsEnd.row {w' : World} {ks : List Nat} {cs : Array Value} {b : Nat} (hb : w'.heap.size = b) (h : RdL w' D ks cs.toList) (hn : cs.size = ks.length) (hm : ks.length ≤ maxLen) (hg : w.grownBy w' none) : PartsEnd D ks w (.returned (.slice (some ⟨b, 0, none⟩) ks.length ks.length)) (w'.alloc (.cells cs 74)) := by
  subst hb
  have hg2 := World.grownBy_alloc w' (.cells cs 74) none
  have h2 := own_laid (e := 74) w' cs hn hm
  exact ⟨_, _, rfl, ⟨h2.1, h2.2.imp id fun ⟨g, cp, cur, a1, a2, a3⟩ => ⟨g, cp, cur, a1, Nat.le_trans hg.size a2, a3⟩⟩, h.on hg2, gr_trans hg hg2⟩
theorem PartsEnd.none_ (w : World) (D : Nat) {w' : World} (hg : w.grownBy w' none) : PartsEnd D [] w (.returned (.slice none 0 0)) w' := ⟨_, [], rfl, World.ownsRow_nil _ _ _ _, RdL.nil _ _, hg⟩
/-- What every case has: the box of the draft's address. -/
structure PBox (w : World) (D q : Nat) (W : World) : Prop where
  gr : w.grownBy W none
  cq : W.cell? ⟨q, 0, none⟩ = some (.pointer (some ⟨D, 0, none⟩))
  hq : w.heap.size = q
  lt : q < W.heap.size
theorem pbox (w : World) (D : Nat) : PBox w D w.heap.size (w.alloc (.cells #[.pointer (some ⟨D, 0, none⟩)] 69)) :=
  ⟨World.grownBy_alloc _ _ _, (Boxed.new w _ _).cell, rfl, by rw [World.size_alloc]; exact Nat.lt_succ_self _⟩
theorem replicate_max {op : Int} (v : List UInt8) (h : op = 0) : partsN op v ws = List.replicate (max ws.length 1) 0 := by unfold partsN; rw [if_pos h]
set_option maxRecDepth 100000 in
set_option maxHeartbeats 2000000 in
theorem parts0 (hD : w.heap[D]? = some (.cells (drC d ka c va vc) t (0, 0))) (hl : len ≤ 5000) (hop : d.op = 0) : Calls Tryd.prog 33 #[.pointer (some ⟨D, 0, none⟩), .slice a len cap] w fun e w' => PartsEnd D (List.replicate (max len 1) 0) w e w' := by
  have hlt : D < w.heap.size := (Array.getElem?_eq_some_iff.1 hD).1
  have hB := pbox w D
  have hDW := (hB.gr.block D hlt (by simp)).trans hD
  have co := dr_op hDW
  rw [hop] at co
  have cq := hB.cq
  have HB := hide hB
  clear hB
  have HK := hide (fun W => keys_any D (max len 1) (len : Int) (by omega) (by omega) W)
  go_enter Tryd.func33, Tryd.ntmps33
  go_wp2_with (go_at_call 41; refine (HK.out _).mono ?_; rintro e w1 ⟨v, rfl, o1, b1⟩)
  go_ret
  refine PartsEnd.up ⟨v, _, rfl, ?_, RdL.keys _ D _, gr_of_below b1⟩ HB.out.gr
  rw [List.length_replicate]
  exact o1
set_option maxRecDepth 100000 in
set_option maxHeartbeats 2000000 in
theorem parts3 (hD : w.heap[D]? = some (.cells (drC d ka c va vc) t (0, 0))) (hop : d.op = 3 ∨ d.op = 4 ∨ d.op = 5 ∨ d.op = 6 ∨ d.op = 7) : Calls Tryd.prog 33 #[.pointer (some ⟨D, 0, none⟩), .slice a len cap] w fun e w' => PartsEnd D (if d.verb = vb_cas then [0, 3, 1, 4, 5] else [0, 3, 1, 4]) w e w' := by
  have hlt : D < w.heap.size := (Array.getElem?_eq_some_iff.1 hD).1
  have hB := pbox w D
  have hDW := (hB.gr.block D hlt (by simp)).trans hD
  have co := dr_op hDW
  have cq := hB.cq
  have HB := hide hB
  have HS := hide (storing_any hDW)
  generalize (if d.verb = vb_cas then [0, 3, 1, 4, 5] else [0, 3, 1, 4]) = ks at *
  clear hB hDW hD
  rcases hop with h | h | h | h | h
  all_goals
    rw [h] at co
    clear h
    go_enter Tryd.func33, Tryd.ntmps33
    go_wp2_with (go_at_call 43; refine HS.out.mono ?_; rintro e w1 ⟨v, xs, rfl, o1, r1, b1⟩)
    go_ret
    exact PartsEnd.up ⟨v, xs, rfl, o1, r1, b1⟩ HB.out.gr
set_option maxRecDepth 100000 in
set_option maxHeartbeats 2000000 in
theorem parts8 (hD : w.heap[D]? = some (.cells (drC d ka c va vc) t (0, 0))) (hop : d.op = 8) : Calls Tryd.prog 33 #[.pointer (some ⟨D, 0, none⟩), .slice a len cap] w fun e w' => PartsEnd D [0] w e w' := by
  have hlt : D < w.heap.size := (Array.getElem?_eq_some_iff.1 hD).1
  have hB := pbox w D
  have hDW := (hB.gr.block D hlt (by simp)).trans hD
  have co := dr_op hDW
  rw [hop] at co
  have cq := hB.cq
  have HB := hide hB
  clear hB
  go_enter Tryd.func33, Tryd.ntmps33
  go_wp2
  go_ret
  exact PartsEnd.row (cs := #[keyV D]) (World.size_alloc _ _) ((RdL.nil _ D).cons rdKey) rfl (by decide) HB.out.gr
set_option maxRecDepth 100000 in
set_option maxHeartbeats 2000000 in
theorem parts2 (hD : w.heap[D]? = some (.cells (drC d ka c va vc) t (0, 0))) (hop : d.op = 2) : Calls Tryd.prog 33 #[.pointer (some ⟨D, 0, none⟩), .slice a len cap] w fun e w' => PartsEnd D [0, 1] w e w' := by
  have hlt : D < w.heap.size := (Array.getElem?_eq_some_iff.1 hD).1
  have hB := pbox w D
  have hDW := (hB.gr.block D hlt (by simp)).trans hD
  have co := dr_op hDW
  rw [hop] at co
  have cq := hB.cq
  have HB := hide hB
  clear hB
  go_enter Tryd.func33, Tryd.ntmps33
  go_wp2
  go_ret
  exact PartsEnd.row (cs := #[keyV D, expV D]) (World.size_alloc _ _) (((RdL.nil _ D).cons rdExp).cons rdKey) rfl (by decide) HB.out.gr
set_option maxRecDepth 100000 in
set_option maxHeartbeats 2000000 in
theorem parts15 (hD : w.heap[D]? = some (.cells (drC d ka c va vc) t (0, 0))) (hop : d.op = 15 ∨ d.op = 16) : Calls Tryd.prog 33 #[.pointer (some ⟨D, 0, none⟩), .slice a len cap] w fun e w' => PartsEnd D [] w e w' := by
  have hlt : D < w.heap.size := (Array.getElem?_eq_some_iff.1 hD).1
  have hB := pbox w D
  have hDW := (hB.gr.block D hlt (by simp)).trans hD
  have co := dr_op hDW
  have cq := hB.cq
  have HB := hide hB
  clear hB hDW hD
  rcases hop with h | h
  all_goals
    rw [h] at co
    clear h
    go_enter Tryd.func33, Tryd.ntmps33
    go_wp2
    go_ret
    exact PartsEnd.none_ w D HB.out.gr
set_option maxRecDepth 100000 in
set_option maxHeartbeats 2000000 in
theorem parts13 (hD : w.heap[D]? = some (.cells (drC d ka c va vc) t (0, 0))) (hW : Wu Q w a len cap ws) (hop : d.op = 13) : Calls Tryd.prog 33 #[.pointer (some ⟨D, 0, none⟩), .slice a len cap] w fun e w' => PartsEnd D (if ws ≠ [] ∧ quietN 13 ws 0 = false then [1] else []) w e w' := by
  have hlt : D < w.heap.size := (Array.getElem?_eq_some_iff.1 hD).1
  have hB := pbox w D
  have hDW := (hB.gr.block D hlt (by simp)).trans hD
  have co := dr_op hDW
  rw [hop] at co
  have cq := hB.cq
  have HB := hide hB
  clear hB
  have HI := hide (isQuiet_any hDW (hW.on fun b _ hb => HB.out.gr.block b hb (by simp)) 0 (by decide))
  rw [hop] at HI
  have hn := hW.n
  clear hDW hW hD
  by_cases h0 : len = 0
  · rw [if_neg (fun h => h.1 (List.eq_nil_of_length_eq_zero (hn.trans h0)))]
    subst h0
    clear HI
    go_enter Tryd.func33, Tryd.ntmps33
    go_wp2_with (go_at_call 34; refine HI.out.mono ?_; rintro e w1 ⟨rfl, rfl⟩)
    go_ret
    exact PartsEnd.none_ w D HB.out.gr
  · have hne : ws ≠ [] := fun e => h0 (by rw [← hn, e]; rfl)
    have hp : (0 : Int) < (len : Int) := by omega
    cases hq : quietN 13 ws 0
    · rw [if_pos ⟨hne, rfl⟩]
      rw [hq] at HI
      clear hq hne
      go_enter Tryd.func33, Tryd.ntmps33
      go_wp2_with (go_at_call 34; refine HI.out.mono ?_; rintro e w1 ⟨rfl, rfl⟩)
      go_ret
      exact PartsEnd.row (cs := #[expV D]) (World.size_alloc _ _) ((RdL.nil _ D).cons rdExp) rfl (by decide) HB.out.gr
    · rw [if_neg (fun h => by cases h.2)]
      rw [hq] at HI
      clear hq hne
      go_enter Tryd.func33, Tryd.ntmps33
      go_wp2_with (go_at_call 34; refine HI.out.mono ?_; rintro e w1 ⟨rfl, rfl⟩)
      go_ret
      exact PartsEnd.none_ w D HB.out.gr
end
end Go.Proofs.YthofdmepofepgaaDoor
