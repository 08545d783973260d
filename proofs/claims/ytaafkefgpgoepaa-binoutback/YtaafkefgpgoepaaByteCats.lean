/- slices.Concat of any rows of bytes. Conditions: at most 50000 bytes. -/
import Derived.Test.YtaafkefgpgoepaaG01Joined
import Derived.Lib.AppendZeros
namespace Go.Proofs.Ytaafkefgpgoepaa
set_option linter.unusedVariables false
open Go.RowKit

theorem bcutN_nil (w : World) : (Instr.sliceAt 32 (.slice none 0 0) none (some (.int .i64 0)) none).run Try.prog w = .ok (.slice none 0 0) w := by go_simp
set_option maxRecDepth 100000 in
set_option maxHeartbeats 2000000 in
theorem bgrowN_any (n : Nat) (hn : n ≤ 100000) (w : World) : Calls Try.prog 28 #[.slice none 0 0, .int .i64 (n : Nat)] w fun e w' => ∃ v, e = .returned v ∧ w'.ownsRow w.heap.size 5 1 v 0 [] ∧ w.grownBy w' none := by
  by_cases h0 : n = 0
  · subst h0
    go_enter Try.func28, Try.ntmps28
    go_wp2
    go_ret
    exact ⟨_, rfl, World.ownsRow_nil _ _ _ _, gr_refl _ _⟩
  · obtain ⟨i0, hi0, hz0, hz1, hz2⟩ := info_parts info_byte
    have hr := Lib.run_append_nil_zeros (P := Try.prog) w 32 3 32 5 i0 (.int .u8 0) .i64 .i64 Try.underlying32 Try.underlying3 hi0 hz0 n (by omega) (by omega) (by omega) (by rw [hz2]; omega)
    have hG1 := grownCap_ge w n 0 5
    have hG2 := grownCap_le_maxLen w n 0 5 (by unfold maxLen; omega)
    obtain ⟨G, hG⟩ : ∃ G, grownCap w n 0 5 = G := ⟨_, rfl⟩
    rw [hG] at hr hG1 hG2
    obtain ⟨cs, hcs⟩ : ∃ cs, Builtin.zeroCells (Value.int .u8 0).cells n ++ Builtin.zeroCells (Value.int .u8 0).cells (G - n) = cs := ⟨_, rfl⟩
    have hsz : cs.size = G * 1 := by
      rw [← hcs, Array.size_append, size_zeroCells, size_zeroCells]
      show n * 1 + (G - n) * 1 = G * 1
      omega
    rw [hcs] at hr
    have HO : Hid ((w.drew.alloc (.cells cs 5)).ownsRow w.heap.size 5 1 (.slice (some ⟨w.heap.size, 0, none⟩) 0 G) 0 []) :=
      ⟨rfl, .inr ⟨_, G, cs, rfl, Nat.le_refl _, World.alloc_heap_new w.drew _, Nat.zero_le _, hG2, hsz, rfl⟩⟩
    have hgr : w.grownBy (w.drew.alloc (.cells cs 5)) none := gr_trans (b := w.drew) ⟨rfl, rfl, rfl, Nat.le_refl _, fun _ _ _ => rfl⟩ (World.grownBy_alloc _ _ none)
    have HR := hide hr
    have hc := bcutN_nil w
    have e1 : wrap64 ((n : Int) - 0) = (n : Int) := by unfold wrap64; omega
    have hpos : (0 : Int) < (n : Int) := by omega
    have hGi : G ≤ 9223372036854775807 := hG2
    clear hr hcs hsz hG hi0 hz0 hz1 hz2 h0
    go_enter Try.func28, Try.ntmps28
    go_wp2_with (at_builtin; refine Lib.wpList_append_run _ rfl _ _ _ _ rfl _ _ rfl rfl _ _ HR.out ?_)
    go_ret
    exact ⟨_, rfl, HO.out, hgr⟩
/-- Rows of bytes, one behind the other in a block. -/
structure Rws (W : World) (g : Nat) (Ls : List (List UInt8)) : Prop where
  each : ∀ i (h : i < Ls.length), ∃ a c, W.cell? ⟨g, i, none⟩ = some (.slice a (Ls[i]).length c) ∧ Bs W a (Ls[i]).length c (ints Ls[i])
  old : g < W.heap.size
theorem Rws.step {W W' : World} {g : Nat} {Ls : List (List UInt8)} (h : Rws W g Ls) (hg : W.grownBy W' none) : Rws W' g Ls :=
  ⟨fun i hi => by
    obtain ⟨a, c, h1, h2⟩ := h.each i hi
    exact ⟨a, c, ((below_gr hg).cell (p := ⟨g, i, none⟩) h.old).trans h1, h2.on (below_gr hg)⟩, Nat.lt_of_lt_of_le h.old hg.size⟩
def flatB (j : Nat) (Ls : List (List UInt8)) : List UInt8 := (Ls.take j).flatten
theorem flatB_succ {Ls : List (List UInt8)} {j : Nat} (h : j < Ls.length) : flatB (j + 1) Ls = flatB j Ls ++ Ls[j] := by
  unfold flatB
  rw [List.take_succ_eq_append_getElem h, List.flatten_append, List.flatten_cons, List.flatten_nil, List.append_nil]
theorem flatB_le (Ls : List (List UInt8)) (j : Nat) : (flatB j Ls).length ≤ Ls.flatten.length := by
  unfold flatB
  have : Ls.flatten = (Ls.take j).flatten ++ (Ls.drop j).flatten := by rw [← List.flatten_append, List.take_append_drop]
  rw [this, List.length_append]
  omega
theorem flatB_all (Ls : List (List UInt8)) : flatB Ls.length Ls = Ls.flatten := by unfold flatB; rw [List.take_length]
theorem byU_appN (l m : List UInt8) : byU (l ++ m) = byU l ++ byU m := by simp [byU, byV, ints]
theorem rowNewN {w wr w' : World} {v : Value} {n : Nat} {xs : List Value} (hg : w.grownBy wr none) (hr : wr.ownsRow w.heap.size 5 1 v n xs) (hg' : wr.grownBy w' v.ownBlock) : w.grownBy w' none := by
  cases hb : v.ownBlock with
  | none =>
    rw [hb] at hg'
    exact gr_trans hg hg'
  | some k =>
    rw [hb] at hg'
    exact gr_new hg hg' (own_at hr hb).1
set_option maxRecDepth 100000 in
set_option maxHeartbeats 4000000 in
theorem catN_any {w : World} {g n cap : Nat} {Ls : List (List UInt8)} (h : Rws w g Ls) (hn : Ls.length = n) (hm : n ≤ 1000) (hfew : Ls.flatten.length ≤ 50000) :
    Calls Try.prog 18 #[.slice (some ⟨g, 0, none⟩) n cap] w fun e w' => ∃ v, e = .returned v ∧ w'.ownsRow w.heap.size 5 1 v Ls.flatten.length (byU Ls.flatten) ∧ w.grownBy w' none := by
  subst hn
  obtain ⟨n, hn⟩ : ∃ n, Ls.length = n := ⟨_, rfl⟩
  have H := hide h
  have HG := hide (fun W => bgrowN_any Ls.flatten.length (by omega) W)
  have HJ : Hid (∀ j, (flatB j Ls).length ≤ Ls.flatten.length) := fun j => flatB_le Ls j
  have HA : Hid (flatB n Ls = Ls.flatten) := by rw [← hn]; exact flatB_all Ls
  rw [hn] at hm ⊢
  have HN := hide hn
  clear h hn
  generalize Ls.flatten = F at *
  go_enter Try.func18, Try.ntmps18
  go_wp2
  go_loopw [3, 5, 11] (fun s _ i wr => ∃ j : Nat, j ≤ n ∧ i = .int .i64 j ∧ s = .int .i64 ((flatB j Ls).length : Nat) ∧ w = wr) (fun _ _ i _ => n - (intOf i).toNat)
  case atStart => exact ⟨0, Nat.zero_le _, rfl, rfl, rfl⟩
  case round =>
    obtain ⟨j, hj, rfl, rfl, rfl⟩ := hrel
    by_cases hlt : j < n
    · have hji : (j : Int) < (n : Int) := by omega
      obtain ⟨a2, c2, c1, -⟩ := H.out.each j (by rw [HN.out]; exact hlt)
      have hs : (flatB (j + 1) Ls).length = (flatB j Ls).length + (Ls[j]'(by rw [HN.out]; exact hlt)).length := by rw [flatB_succ (by rw [HN.out]; exact hlt), List.length_append]
      have hle := HJ.out (j + 1)
      have HS := hide hs
      rw [hs] at hle
      obtain ⟨x, hx⟩ : ∃ x, (flatB j Ls).length = x := ⟨_, rfl⟩
      obtain ⟨y, hy⟩ : ∃ y, (Ls[j]'(by rw [HN.out]; exact hlt)).length = y := ⟨_, rfl⟩
      rw [hx, hy] at hle HS
      rw [hy] at c1
      rw [hx]
      have e1 : wrap64 ((x : Int) + (y : Int)) = (x : Int) + (y : Int) := by unfold wrap64; omega
      have e2 : ¬ ((x : Int) + (y : Int)) < 0 := by omega
      clear hs hx hy hfew hle
      go_wp2
      go_roundw
      case rel => exact ⟨j + 1, hlt, by go_num, by rw [HS.out]; first | rfl | (rw [Int.natCast_add]; exact congrArg _ e1) | (rw [Int.natCast_add, e1]), by first | trivial | rfl⟩
      case measure => simp [intOf]; omega
    · obtain rfl : j = n := by omega
      rw [HA.out]
      clear hlt
      go_wp2_with (go_at_call 28; refine (HG.out _).mono ?_; rintro e w1 ⟨v0, rfl, hr0, hg0⟩; replace hr0 := hide hr0)
      go_loopw [6, 8, 27] (fun v _ i wr => ∃ j2 : Nat, j2 ≤ j ∧ i = .int .i64 j2 ∧ Hid (wr.ownsRow w.heap.size 5 1 v (flatB j2 Ls).length (byU (flatB j2 Ls))) ∧ Hid (w.grownBy wr none)) (fun _ _ i _ => j - (intOf i).toNat)
      case atStart => exact ⟨0, Nat.zero_le _, rfl, hr0, hg0⟩
      case round =>
        obtain ⟨j2, hj2, rfl, hr, hg⟩ := hrel
        clear hr0 hg0
        by_cases hlt : j2 < j
        · have hji : (j2 : Int) < (j : Int) := by omega
          have HC := H.out.step hg.out
          have hj3 : j2 < Ls.length := by rw [HN.out]; exact hlt
          obtain ⟨a2, c2, c1, bb⟩ := HC.each j2 hj3
          have hs : flatB (j2 + 1) Ls = flatB j2 Ls ++ Ls[j2] := flatB_succ hj3
          have hle := HJ.out (j2 + 1)
          rw [hs, List.length_append] at hle
          obtain ⟨v', w2, hrun, ho2, hg2, hat⟩ := run_append_bs _ w.heap.size 32 hr.out rfl bb (by omega) hg.out.size
          have HR := hide hrun
          have HG2 := hide (rowNewN hg.out hr.out hg2)
          have HO2 : Hid (w2.ownsRow w.heap.size 5 1 v' (flatB (j2 + 1) Ls).length (byU (flatB (j2 + 1) Ls))) := by
            show World.ownsRow _ _ _ _ _ _ _
            rw [hs, List.length_append, byU_appN]
            exact ho2
          obtain ⟨y, hy⟩ : ∃ y, (Ls[j2]).length = y := ⟨_, rfl⟩
          rw [hy] at c1 HR
          clear hrun ho2 hg2 hat HC hle bb hs hy
          go_wp2_with (at_builtin; refine Lib.wpList_append_run _ rfl _ _ _ _ rfl _ _ rfl rfl _ _ HR.out ?_)
          go_roundw
          case rel => exact ⟨j2 + 1, hlt, by go_num, HO2, HG2⟩
          case measure => simp [intOf]; omega
        · obtain rfl : j2 = j := by omega
          clear hlt
          have hr2 := hr.out
          rw [HA.out] at hr2
          replace hr2 := hide hr2
          go_wp2
          go_ret
          exact ⟨_, rfl, hr2.out, hg.out⟩
end Go.Proofs.Ytaafkefgpgoepaa
