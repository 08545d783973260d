/- '[]byte(s)': a row of its own, and that it may be read. Conditions: none. slices.Concat of two rows of bytes. Conditions: at most 50000 bytes. -/
import Derived.Test.YtkfeafmpaodagaaGreatDoorG45Joined
import Derived.Test.YtkfeafmpaodagaaGreatDoorG02Joined
import Derived.Test.YtkfeafmpaodagaaGreatDoorG25Joined
import Derived.Lib.AppendZeros
namespace Go.Proofs.YtkfeafmpaodagaaGreatDoor
set_option linter.unusedVariables false
open Go.RowKit Go.Shelf

theorem bytes_law (l : List UInt8) (w : World) : ∃ C o, (convert 9 30 (.string ⟨l.toArray⟩)).run Tryz.prog w = .ok (.slice (some ⟨w.heap.size, 0, none⟩) l.length C) (w.drew.alloc o) ∧ ∀ W : World, W.heap[w.heap.size]? = some o → Bs W (some ⟨w.heap.size, 0, none⟩) l.length C (ints l) := by
  have hS : (⟨l.toArray⟩ : ByteArray).size = l.length := by show l.toArray.size = _; simp
  have hr := run_bytes_of_string (P := Tryz.prog) w 9 30 5 ⟨l.toArray⟩ Tryz.underlying9 Tryz.underlying30 Tryz.underlying5
  have hge := grownCap_ge w (⟨l.toArray⟩ : ByteArray).size 0 5
  obtain ⟨C, hC⟩ : ∃ C, C = grownCap w (⟨l.toArray⟩ : ByteArray).size 0 5 := ⟨_, rfl⟩
  rw [← hC] at hr hge
  rw [hS] at hr hge
  refine ⟨C, _, hr, fun W hW => ?_⟩
  by_cases h0 : l.length = 0
  · refine .inl ⟨h0, ?_, fun e => by cases e⟩
    rw [List.eq_nil_of_length_eq_zero h0]
    rfl
  · refine .inr ⟨w.heap.size, 0, rfl, by omega, hge, ints_len l, ints_byt l, fun i hi => ?_, (Array.getElem?_eq_some_iff.1 hW).1⟩
    unfold World.cell?
    rw [hW]
    show (bytesRow ⟨l.toArray⟩ C)[0 + i]? = _
    rw [Nat.zero_add, getD_ints _ _ hi]
    unfold bytesRow
    have hi3 : i < (⟨l.toArray⟩ : ByteArray).data.size := by show i < l.toArray.size; simpa using hi
    rw [Array.getElem?_append_left (by rw [Array.size_map]; exact hi3), Array.getElem?_map, Array.getElem?_eq_getElem hi3]
    show some (Value.int .u8 ((l.toArray[i]'hi3).toNat : Int)) = _
    simp
theorem Rd.box {w0 : World} {a : Option Addr} {c g : Nat} {o : Obj} {l : List UInt8} (ha : a = some ⟨g, 0, none⟩) (h : ∀ W : World, W.heap[g]? = some o → Bs W a l.length c (ints l)) : Rd w0 (boxP g o) a c l :=
  ⟨fun W H => h W H.q, fun W k _ _ hk => .inr (by subst ha; exact (Option.some.inj hk).symm)⟩
end Go.Proofs.YtkfeafmpaodagaaGreatDoor

namespace Go.Proofs.YtkfeafmpaodagaaGreatDoor
set_option linter.unusedVariables false
open Go.RowKit

theorem bcut_nil (w : World) : (Instr.sliceAt 30 (.slice none 0 0) none (some (.int .i64 0)) none).run Tryz.prog w = .ok (.slice none 0 0) w := by go_simp
set_option maxRecDepth 100000 in
set_option maxHeartbeats 2000000 in
theorem bgrow_any (n : Nat) (hn : n ≤ 100000) (w : World) : Calls Tryz.prog 167 #[.slice none 0 0, .int .i64 (n : Nat)] w fun e w' => ∃ v, e = .returned v ∧ w'.ownsRow w.heap.size 5 1 v 0 [] ∧ w.grownBy w' none := by
  by_cases h0 : n = 0
  · subst h0
    go_enter Tryz.func167, Tryz.ntmps167
    go_wp2
    go_ret
    exact ⟨_, rfl, World.ownsRow_nil _ _ _ _, gr_refl _ _⟩
  · obtain ⟨i0, hi0, hz0, hz1, hz2⟩ := info_parts info_byte
    have hr := Lib.run_append_nil_zeros (P := Tryz.prog) w 30 3 30 5 i0 (.int .u8 0) .i64 .i64 Tryz.underlying30 Tryz.underlying3 hi0 hz0 n (by omega) (by omega) (by omega) (by rw [hz2]; omega)
    have hG1 := grownCap_ge w n 0 5
    have hG2 := grownCap_le_maxLen w n 0 5 (by unfold maxLen; omega)
    obtain ⟨G, hG⟩ : ∃ G, grownCap w n 0 5 = G := ⟨_, rfl⟩
    rw [hG] at hr hG1 hG2
    obtain ⟨cs, hcs⟩ : ∃ cs, Builtin.zeroCells (Value.int .u8 0).cells n ++ Builtin.zeroCells (Value.int .u8 0).cells (G - n) = cs := ⟨_, rfl⟩
    have hsz : cs.size = G * 1 := by
      rw [← hcs, Array.size_append, size_zeroCells, size_zeroCells]
      show n * 1 + (G - n) * 1 = G * 1
      omega
    rw [hcs] at hr
    have HO : Hid ((w.drew.alloc (.cells cs 5)).ownsRow w.heap.size 5 1 (.slice (some ⟨w.heap.size, 0, none⟩) 0 G) 0 []) :=
      ⟨rfl, .inr ⟨_, G, cs, rfl, Nat.le_refl _, World.alloc_heap_new w.drew _, Nat.zero_le _, hG2, hsz, rfl⟩⟩
    have hgr : w.grownBy (w.drew.alloc (.cells cs 5)) none := gr_trans (b := w.drew) ⟨rfl, rfl, rfl, Nat.le_refl _, fun _ _ _ => rfl⟩ (World.grownBy_alloc _ _ none)
    have HR := hide hr
    have hc := bcut_nil w
    have e1 : wrap64 ((n : Int) - 0) = (n : Int) := by unfold wrap64; omega
    have hpos : (0 : Int) < (n : Int) := by omega
    have hGi : G ≤ 9223372036854775807 := hG2
    clear hr hcs hsz hG hi0 hz0 hz1 hz2 h0
    go_enter Tryz.func167, Tryz.ntmps167
    go_wp2_with (at_builtin; refine Lib.wpList_append_run _ rfl _ _ _ _ rfl _ _ rfl rfl _ _ HR.out ?_)
    go_ret
    exact ⟨_, rfl, HO.out, hgr⟩
/-- The first of two rows, and both. -/
def cat2 (l m : List UInt8) : Nat → List UInt8
  | 0 => []
  | 1 => l
  | _ => l ++ m
structure Two (W : World) (g : Nat) (a1 a2 : Option Addr) (c1 c2 : Nat) (l m : List UInt8) : Prop where
  x : W.cell? ⟨g, 0, none⟩ = some (.slice a1 l.length c1)
  y : W.cell? ⟨g, 1, none⟩ = some (.slice a2 m.length c2)
  bl : Bs W a1 l.length c1 (ints l)
  bm : Bs W a2 m.length c2 (ints m)
  old : g < W.heap.size
theorem Two.step {W W' : World} {g : Nat} {a1 a2 : Option Addr} {c1 c2 : Nat} {l m : List UInt8} (h : Two W g a1 a2 c1 c2 l m) (hg : W.grownBy W' none) : Two W' g a1 a2 c1 c2 l m :=
  ⟨((below_gr hg).cell (p := ⟨g, 0, none⟩) h.old).trans h.x, ((below_gr hg).cell (p := ⟨g, 1, none⟩) h.old).trans h.y, h.bl.on (below_gr hg), h.bm.on (below_gr hg), Nat.lt_of_lt_of_le h.old hg.size⟩
theorem byU_app (l m : List UInt8) : byU (l ++ m) = byU l ++ byU m := by simp [byU, byV, ints]
theorem rowNewB {w wr w' : World} {v : Value} {n : Nat} {xs : List Value} (hg : w.grownBy wr none) (hr : wr.ownsRow w.heap.size 5 1 v n xs) (hg' : wr.grownBy w' v.ownBlock) : w.grownBy w' none := by
  cases hb : v.ownBlock with
  | none =>
    rw [hb] at hg'
    exact gr_trans hg hg'
  | some k =>
    rw [hb] at hg'
    exact gr_new hg hg' (own_at hr hb).1
set_option maxRecDepth 100000 in
set_option maxHeartbeats 4000000 in
theorem bcat_any {w : World} {g : Nat} {a1 a2 : Option Addr} {c1 c2 : Nat} {l m : List UInt8} (h : Two w g a1 a2 c1 c2 l m) (hlm : l.length + m.length ≤ 50000) :
    Calls Tryz.prog 137 #[.slice (some ⟨g, 0, none⟩) 2 2] w fun e w' => ∃ v, e = .returned v ∧ w'.ownsRow w.heap.size 5 1 v (l ++ m).length (byU (l ++ m)) ∧ w.grownBy w' none := by
  have H := hide h
  obtain ⟨p, hp⟩ : ∃ p, l.length = p := ⟨_, rfl⟩
  obtain ⟨q, hq⟩ : ∃ q, m.length = q := ⟨_, rfl⟩
  have x0 := h.x
  have y0 := h.y
  rw [hp] at x0 hlm
  rw [hq] at y0 hlm
  have HG := hide (fun W => bgrow_any (p + q) (by omega) W)
  have HPQ : Hid ((l ++ m).length = p + q) := by show (l ++ m).length = p + q; rw [List.length_append, hp, hq]
  have HP := hide hp
  have HQ := hide hq
  have e1 : wrap64 (0 + (p : Int)) = (p : Int) := by unfold wrap64; omega
  have e2 : wrap64 ((p : Int) + (q : Int)) = ((p + q : Nat) : Int) := by unfold wrap64; omega
  have e3 : ¬ ((p : Int) < 0) := by omega
  have e4 : ¬ (((p + q : Nat) : Int) < 0) := by omega
  clear h hp hq
  go_enter Tryz.func137, Tryz.ntmps137
  go_wp2
  go_loopw [3, 5, 11] (fun s _ i wr => ∃ j : Nat, j ≤ 2 ∧ i = .int .i64 j ∧ s = .int .i64 (if j = 0 then 0 else if j = 1 then (p : Int) else ((p + q : Nat) : Int)) ∧ w = wr) (fun _ _ i _ => 2 - (intOf i).toNat)
  case atStart => exact ⟨0, by omega, rfl, rfl, rfl⟩
  case round =>
    obtain ⟨j, hj, rfl, rfl, rfl⟩ := hrel
    match j, hj with
    | 0, _ =>
      go_wp2
      go_roundw
      case rel => exact ⟨1, by omega, rfl, by first | rfl | simp, by first | trivial | rfl⟩
      case measure => simp [intOf]
    | 1, _ =>
      go_wp2
      go_roundw
      case rel => exact ⟨2, by omega, rfl, by first | rfl | simp, by first | trivial | rfl⟩
      case measure => simp [intOf]
    | 2, _ =>
      go_wp2_with (go_at_call 167; refine (HG.out _).mono ?_; rintro e w1 ⟨v0, rfl, hr0, hg0⟩; replace hr0 := hide hr0)
      go_loopw [6, 8, 27] (fun v _ i wr => ∃ j2 : Nat, j2 ≤ 2 ∧ i = .int .i64 j2 ∧ Hid (wr.ownsRow w.heap.size 5 1 v (cat2 l m j2).length (byU (cat2 l m j2))) ∧ Hid (w.grownBy wr none)) (fun _ _ i _ => 2 - (intOf i).toNat)
      case atStart => exact ⟨0, by omega, rfl, hr0, hg0⟩
      case round =>
        obtain ⟨j2, hj2, rfl, hr, hg⟩ := hrel
        clear hr0 hg0 x0 y0
        have HC := H.out.step hg.out
        match j2, hj2 with
        | 0, _ =>
          have x1 := HC.x
          rw [HP.out] at x1
          obtain ⟨v', w2, hrun, ho2, hg2, hat⟩ := run_append_bs _ w.heap.size 30 hr.out HP.out (by have := HC.bl; rwa [HP.out] at this) (by show 0 + p ≤ _; omega) hg.out.size
          have HR := hide hrun
          have HG2 := hide (rowNewB hg.out hr.out hg2)
          have HO2 : Hid (w2.ownsRow w.heap.size 5 1 v' (cat2 l m 1).length (byU (cat2 l m 1))) := by
            show World.ownsRow _ _ _ _ _ _ _
            have h5 : w2.ownsRow w.heap.size 5 1 v' (0 + p) ([] ++ byU l) := ho2
            rw [Nat.zero_add, List.nil_append] at h5
            show World.ownsRow w2 w.heap.size 5 1 v' l.length (byU l)
            rw [HP.out]
            exact h5
          clear hrun ho2 hg2 hat HC
          go_wp2_with (at_builtin; refine Lib.wpList_append_run _ rfl _ _ _ _ rfl _ _ rfl rfl _ _ HR.out ?_)
          go_roundw
          case rel => exact ⟨1, by omega, rfl, HO2, HG2⟩
          case measure => simp [intOf]
        | 1, _ =>
          have y1 := HC.y
          rw [HQ.out] at y1
          have hr1 := hr.out
          rw [show (cat2 l m 1).length = p from HP.out] at hr1
          obtain ⟨v', w2, hrun, ho2, hg2, hat⟩ := run_append_bs _ w.heap.size 30 hr1 HQ.out (by have := HC.bm; rwa [HQ.out] at this) (by omega) hg.out.size
          have HR := hide hrun
          have HG2 := hide (rowNewB hg.out hr.out hg2)
          have HO2 : Hid (w2.ownsRow w.heap.size 5 1 v' (cat2 l m 2).length (byU (cat2 l m 2))) := by
            show World.ownsRow w2 w.heap.size 5 1 v' (l ++ m).length (byU (l ++ m))
            rw [HPQ.out, byU_app]
            exact ho2
          clear hrun ho2 hg2 hat HC hr1
          go_wp2_with (at_builtin; refine Lib.wpList_append_run _ rfl _ _ _ _ rfl _ _ rfl rfl _ _ HR.out ?_)
          go_roundw
          case rel => exact ⟨2, by omega, rfl, HO2, HG2⟩
          case measure => simp [intOf]
        | 2, _ =>
          go_wp2
          go_ret
          exact ⟨_, rfl, hr.out, hg.out⟩
end Go.Proofs.YtkfeafmpaodagaaGreatDoor
