/- Whether a request and results are within the bounds. Conditions: none. -/
import Derived.Test.YtaafkefgpgoepaaFewM
import Derived.Deep.Cut
namespace Go.Proofs.Ytaafkefgpgoepaa
set_option linter.unusedVariables false
open Go.RowKit

/-- Whether all is within the bounds. -/
def FewE (r : Qv) (xs : List Rv) (w : World) (e : Ending) (w' : World) : Prop := ∃ q : Bool, e = .returned (.bool q) ∧ (q = true → FewR r xs) ∧ w.grownBy w' none
theorem FewE.no {r : Qv} {xs : List Rv} {w w' : World} (hg : w.grownBy w' none) : FewE r xs w (.returned (.bool false)) w' := ⟨false, rfl, (fun h => by cases h), hg⟩
theorem add0 (n : Nat) : n + 0 = n := rfl
section
variable {w : World} {r : Qv} {xs : List Rv} {ca ta ka la : Option Addr} {cc tc kc lc : Nat}
set_option maxRecDepth 100000 in
set_option maxHeartbeats 4000000 in
theorem few_any (hq : QAt w r ca cc ta tc ka kc) (hx : Ru w la xs.length lc xs) : Calls Try.prog 9 #[.agg (rqC r ca cc ta tc ka kc), .slice la xs.length lc] w fun e w' => FewE r xs w e w' := by
  have B := QBox.new w r ca ta ka cc tc kc
  obtain ⟨c0, -, -, c6, c7⟩ := B.cells
  obtain ⟨W, hW⟩ : ∃ W, W = w.alloc (.cells (rqC r ca cc ta tc ka kc) 28) := ⟨_, rfl⟩
  obtain ⟨q, hqq⟩ : ∃ q, q = w.heap.size := ⟨_, rfl⟩
  rw [← hW, ← hqq] at B c0 c6 c7
  have HG := hide B.gr
  have HQ := hide (hq.on (below_gr B.gr))
  have HX := hide (hx.on (below_gr B.gr))
  simp only [rqC] at hW ⊢
  clear B hq hx
  obtain ⟨N, hN⟩ : ∃ N, N = r.cmds.length := ⟨_, rfl⟩
  obtain ⟨M, hM⟩ : ∃ M, M = xs.length := ⟨_, rfl⟩
  obtain ⟨T, hT⟩ : ∃ T, T = r.form.toks.length := ⟨_, rfl⟩
  rw [← hN] at c0 hW
  rw [← hT] at c7 hW
  rw [← hN, ← hM, ← hT]
  have HN := hide hN
  have HM := hide hM
  have HT := hide hT
  clear hN hM hT
  by_cases z1 : 40 < N
  · have i1 : (40 : Int) < (N : Int) := by omega
    clear z1
    go_enter Try.func9, Try.ntmps9
    go_upto_region 1 with fail
    rw [← hW, ← hqq]
    clear hW hqq
    go_wp2
    go_ret
    exact FewE.no HG.out
  by_cases z2 : 40 < M
  · have i1 : ¬ (40 : Int) < (N : Int) := by omega
    have i2 : (40 : Int) < (M : Int) := by omega
    clear z1 z2
    go_enter Try.func9, Try.ntmps9
    go_upto_region 1 with fail
    rw [← hW, ← hqq]
    clear hW hqq
    go_wp2
    go_ret
    exact FewE.no HG.out
  have i1 : ¬ (40 : Int) < (N : Int) := by omega
  have i2 : ¬ (40 : Int) < (M : Int) := by omega
  by_cases z3 : 100 < r.form.flags.size
  · have i3 : (100 : Int) < (r.form.flags.size : Int) := by omega
    clear z1 z2 z3
    go_enter Try.func9, Try.ntmps9
    go_upto_region 1 with fail
    rw [← hW, ← hqq]
    clear hW hqq
    go_wp2
    go_ret
    exact FewE.no HG.out
  have i3 : ¬ (100 : Int) < (r.form.flags.size : Int) := by omega
  by_cases z4 : 100 < T
  · have i4 : (100 : Int) < (T : Int) := by omega
    clear z1 z2 z3 z4
    go_enter Try.func9, Try.ntmps9
    go_upto_region 1 with fail
    rw [← hW, ← hqq]
    clear hW hqq
    go_wp2
    go_ret
    exact FewE.no HG.out
  have i4 : ¬ (100 : Int) < (T : Int) := by omega
  go_enter Try.func9, Try.ntmps9
  go_upto_region 1 with fail
  rw [← hW, ← hqq]
  clear hW hqq
  go_wp2
  go_loopw [5] (fun i wr => ∃ k : Nat, k ≤ T ∧ i = .int .i64 k ∧ wr = W) (fun i _ => T - (intOf i).toNat)
  case atStart => exact ⟨0, Nat.zero_le _, rfl, by first | rfl | trivial⟩
  case round =>
    obtain ⟨k, hk, rfl, rfl⟩ := hrel
    by_cases hlt : k < T
    · have hki : (k : Int) < (T : Int) := by omega
      have e1 : wrap64 ((k : Int) + 1) = (k : Int) + 1 := by unfold wrap64; omega
      obtain ⟨b, off, rfl, hc⟩ := HQ.out.toks.get (i := k) (by rw [← HT.out]; exact hlt)
      generalize r.form.toks[k]'_ = s at *
      by_cases h3 : 300 < s.size
      · have hsi : (300 : Int) < (s.size : Int) := by omega
        clear h3
        go_wp2
        go_ret
        exact FewE.no HG.out
      · have hsi : ¬ (300 : Int) < (s.size : Int) := by omega
        clear h3
        go_wp2
        go_roundw
        case rel => exact ⟨k + 1, by omega, by go_num, (by first | rfl | trivial)⟩
        case measure => simp [intOf]; omega
    · obtain rfl : k = T := by omega
      have hki := int_nltH k
      clear hlt hk
      go_wp2
      go_loopw [6] (fun i W2 => ∃ k : Nat, k ≤ N ∧ i = .int .i64 k ∧ W2 = wr ∧ Hid (∀ j (h : j < r.cmds.length), j < k → (r.cmds[j]).key.size ≤ 300)) (fun i _ => N - (intOf i).toNat)
      case atStart => exact ⟨0, Nat.zero_le _, rfl, (by first | rfl | trivial), hide (fun j _ h => by omega)⟩
      case round =>
        obtain ⟨m, hm, rfl, rfl, HK⟩ := hrel
        by_cases hlt : m < N
        · have hki : (m : Int) < (N : Int) := by omega
          have e1 : wrap64 ((m : Int) + 1) = (m : Int) + 1 := by unfold wrap64; omega
          have hml : m < r.cmds.length := by rw [← HN.out]; exact hlt
          obtain ⟨b, off, rfl, ka2, kc2, hr, _⟩ := HQ.out.cmds.get hml
          have hc := key_cell hr
          have hkl : (r.cmds[m]).key = (r.cmds[m]).key := rfl
          obtain ⟨s, hs⟩ : ∃ s, s = (r.cmds[m]).key := ⟨_, rfl⟩
          rw [← hs] at hc
          have HS := hide hs
          clear hr hkl hs
          by_cases h3 : 300 < s.size
          · have hsi : (300 : Int) < (s.size : Int) := by omega
            clear h3
            go_wp2
            go_ret
            exact FewE.no HG.out
          · have hsi : ¬ (300 : Int) < (s.size : Int) := by omega
            have HK2 : Hid (∀ j (h : j < r.cmds.length), j < m + 1 → (r.cmds[j]).key.size ≤ 300) := fun j h hj => by
              by_cases e : j = m
              · subst e; rw [← HS.out]; omega
              · exact HK.out j h (by omega)
            clear h3
            go_wp2
            go_roundw
            case rel => exact ⟨m + 1, by omega, by go_num, (by first | rfl | trivial), HK2⟩
            case measure => simp [intOf]; omega
        · obtain rfl : m = N := by omega
          have hkj := int_nltH m
          clear hlt hm
          go_wp2
          go_loopw [7] (fun i W2 => ∃ k : Nat, k ≤ M ∧ i = .int .i64 k ∧ W2 = wr ∧ Hid (∀ j (h : j < xs.length), j < k → (xs[j]).val.length ≤ 2000)) (fun i _ => M - (intOf i).toNat)
          case atStart => exact ⟨0, Nat.zero_le _, rfl, (by first | rfl | trivial), hide (fun j _ h => by omega)⟩
          case round =>
            obtain ⟨l, hl, rfl, rfl, HV⟩ := hrel
            by_cases hlt : l < M
            · have hki2 : (l : Int) < (M : Int) := by omega
              have e1 : wrap64 ((l : Int) + 1) = (l : Int) + 1 := by unfold wrap64; omega
              have hml : l < xs.length := by rw [← HM.out]; exact hlt
              obtain ⟨b, off, rfl, hlb, va, vc, hr, hbu⟩ := HX.out.get hml
              have hc : wr.cell? ⟨b, off + l * 9 + 1, none⟩ = some (.slice va (xs[l]).val.length vc) := hr 1 _ rfl
              obtain ⟨s, hs⟩ : ∃ s, s = (xs[l]).val.length := ⟨_, rfl⟩
              rw [← hs] at hc
              have HS := hide hs
              clear hr hs hbu hlb
              by_cases h3 : 2000 < s
              · have hsi : (2000 : Int) < (s : Int) := by omega
                clear h3
                go_wp2
                go_ret
                exact FewE.no HG.out
              · have hsi : ¬ (2000 : Int) < (s : Int) := by omega
                have HV2 : Hid (∀ j (h : j < xs.length), j < l + 1 → (xs[j]).val.length ≤ 2000) := fun j h hj => by
                  by_cases e : j = l
                  · subst e; rw [← HS.out]; omega
                  · exact HV.out j h (by omega)
                clear h3
                go_wp2
                go_roundw
                case rel => exact ⟨l + 1, by omega, by go_num, (by first | rfl | trivial), HV2⟩
                case measure => simp [intOf]; omega
            · obtain rfl : l = M := by omega
              have hkj2 := int_nltH l
              clear hlt hl
              go_wp2
              go_ret
              refine ⟨true, rfl, fun _ => ⟨by rw [← HN.out]; omega, by rw [← HM.out]; omega, fun c hc => ?_, fun x hx => ?_⟩, HG.out⟩
              · obtain ⟨j, hj, rfl⟩ := List.mem_iff_getElem.1 hc
                have := HK.out j hj (by rw [HN.out]; exact hj)
                omega
              · obtain ⟨j, hj, rfl⟩ := List.mem_iff_getElem.1 hx
                exact HV.out j hj (by rw [HM.out]; exact hj)
end
end Go.Proofs.Ytaafkefgpgoepaa
