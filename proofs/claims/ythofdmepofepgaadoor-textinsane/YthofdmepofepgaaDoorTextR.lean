/- How package textin reads a line whose first word is a verb. Conditions: the listed variables hold what the program's text lays; at most 5000 words of at most 140737488351232 bytes. -/
import Derived.Test.YthofdmepofepgaaDoorG23Joined
namespace Go.Proofs.YthofdmepofepgaaDoor
set_option linter.unusedVariables false
open Go.RowKit

section
variable {wB w : World} {D : Nat} {x : List UInt8} {a : Option Addr} {len cap : Nat} {ws : List (List UInt8)}
def ReadsOk (wB : World) (D : Nat) (w w' : World) (d : Dv) : Prop := (∃ n1, Dr wB n1 D w' d) ∧ Gr (fun k => k = D) w w'
theorem gd_gr2 {w2 wr : World} (h : Gr (fun k => k = D) w w2) (k : GD w2.heap.size D w2 wr) : Gr (fun k => k = D) w wr := h.trans ⟨k.os, k.tape, k.output, k.size, fun b hb hn => k.block b hb (by omega)⟩
set_option maxRecDepth 100000 in
set_option maxHeartbeats 2000000 in
theorem read_few (hL : Laid wB) (H : Dr wB w.heap.size D w zeroD) (hW : Wu (fun b => b ≠ D) w a len cap (x :: ws)) (hl : len ≤ 5000) (hb : ∀ y ∈ ws, y.length ≤ 140737488351232) {op : Int} (hop : opN x = some op) {ks : List Nat} (hks : ks = partsN (begun x).op (begun x).verb ws) (hkl : ks.length ≤ 6000) (hq : quietN (begun x).op ws ks.length = false) (hne : ws.length ≠ ks.length) : Calls Tryd.prog 23 #[.pointer (some ⟨D, 0, none⟩), .slice a len cap] w fun e w' => ReadsEnd wB D w (begun x, t_ERROR) e w' := by
  have hn := hW.n
  rw [List.length_cons] at hn
  have hp : ¬ (len : Int) = 0 := by omega
  have hp2 : (0 : Int) < (len : Int) := by omega
  obtain ⟨b, off, rfl, c0⟩ := hW.get (i := 0) (by omega)
  simp only [Nat.add_zero, List.getElem_cons_zero] at c0
  obtain ⟨a1, hs, hT⟩ := hW.tail (by omega)
  rw [List.tail_cons] at hT
  obtain ⟨m, hm⟩ : ∃ m, ws.length = m := ⟨_, rfl⟩
  obtain rfl : len = m + 1 := by omega
  simp only [Nat.add_sub_cancel] at hs hT
  obtain ⟨c1, hc1⟩ : ∃ c1, cap - 1 = c1 := ⟨_, rfl⟩
  rw [hc1] at hs hT
  have HB := hide (begin_any H x)
  rw [hop] at HB
  have HT := hide (fun (w1 : World) (G1 : GD w.heap.size D w w1) => hT.on (w' := w1) fun b hb hl => G1.block b hl (by omega))
  have HP := hide (fun (w1 : World) (G1 : GD w.heap.size D w w1) (K1 : Dr wB w.heap.size D w1 (begun x)) => parts_any (K1.nil_ rfl) (HT.out w1 G1) (by omega) (by show opN x = some ((opN x).getD 0); rw [hop]; rfl))
  have hks2 : Hid (partsN (begun x).op (begun x).verb ws = ks) := hks.symm
  replace hq := hide hq
  clear H hW hT hc1 hn hop hks hl
  have hne2 : ¬ (m : Int) = (ks.length : Int) := by omega
  go_enter Tryd.func23, Tryd.ntmps23
  go_wp2_with (first
      | (go_at_call 32; refine HB.out.mono ?_; rintro e w1 ⟨rfl, K1, G1⟩; have P1 := hide (HP.out w1 G1 K1); rw [hks2.out] at P1; replace K1 := hide K1; replace G1 := hide G1)
      | (go_at_call 33; refine P1.out.mono ?_; rintro e w2 ⟨v, xs, rfl, o2, r2, g2⟩; obtain ⟨pa, pc, rfl⟩ := own_shape o2; have K2 := K1.out.on g2; have W2 := (HT.out w1 G1.out).on (w' := w2) fun b hb hl => g2.block b hl (by simp); have I2 := hide (isQuiet_any (K2.nil_ rfl) W2 ks.length (by omega)); rw [hq.out] at I2; replace K2 := hide K2; replace W2 := hide W2; replace o2 := hide o2; replace r2 := hide r2; replace g2 := hide g2)
      | (go_at_call 34; refine I2.out.mono ?_; rintro e w3 ⟨rfl, rfl⟩))
  go_ret
  exact ⟨rfl, ⟨_, K2.out⟩, (gd_gr G1.out (Nat.le_refl _)).trans ⟨g2.out.os, g2.out.tape, g2.out.output, g2.out.size, fun b hb hn => g2.out.block b hb (by simp)⟩⟩
set_option maxRecDepth 100000 in
set_option maxHeartbeats 4000000 in
theorem read_loud (hL : Laid wB) (H : Dr wB w.heap.size D w zeroD) (hW : Wu (fun b => b ≠ D) w a len cap (x :: ws)) (hl : len ≤ 5000) (hb : ∀ y ∈ ws, y.length ≤ 140737488351232) {op : Int} (hop : opN x = some op) {ks : List Nat} (hks : ks = partsN (begun x).op (begun x).verb ws) (hkl : ks.length ≤ 6000) (hq : quietN (begun x).op ws ks.length = false) (hne : ws.length = ks.length) : Calls Tryd.prog 23 #[.pointer (some ⟨D, 0, none⟩), .slice a len cap] w fun e w' => ReadsEnd wB D w (runR ks ws (begun x) []) e w' := by
  have hn := hW.n
  rw [List.length_cons] at hn
  have hp : ¬ (len : Int) = 0 := by omega
  have hp2 : (0 : Int) < (len : Int) := by omega
  obtain ⟨b, off, rfl, c0⟩ := hW.get (i := 0) (by omega)
  simp only [Nat.add_zero, List.getElem_cons_zero] at c0
  obtain ⟨a1, hs, hT⟩ := hW.tail (by omega)
  rw [List.tail_cons] at hT
  obtain ⟨m, hm⟩ : ∃ m, ws.length = m := ⟨_, rfl⟩
  obtain rfl : len = m + 1 := by omega
  simp only [Nat.add_sub_cancel] at hs hT
  obtain ⟨c1, hc1⟩ : ∃ c1, cap - 1 = c1 := ⟨_, rfl⟩
  rw [hc1] at hs hT
  have HB := hide (begin_any H x)
  rw [hop] at HB
  have HT := hide (fun (w1 : World) (G1 : GD w.heap.size D w w1) => hT.on (w' := w1) fun b hb hl => G1.block b hl (by omega))
  have HP := hide (fun (w1 : World) (G1 : GD w.heap.size D w w1) (K1 : Dr wB w.heap.size D w1 (begun x)) => parts_any (K1.nil_ rfl) (HT.out w1 G1) (by omega) (by show opN x = some ((opN x).getD 0); rw [hop]; rfl))
  have hks2 : Hid (partsN (begun x).op (begun x).verb ws = ks) := hks.symm
  replace hq := hide hq
  clear H hW hT hc1 hn hop hks hl
  have hne2 : (m : Int) = (ks.length : Int) := by omega
  obtain rfl : m = ks.length := by omega
  obtain ⟨ws1, hws⟩ : ∃ ws1, ws1 = ws := ⟨_, rfl⟩
  obtain ⟨d1, hd1⟩ : ∃ d1, d1 = begun x := ⟨_, rfl⟩
  have hd1k : d1.keys = [] := by rw [hd1]; rfl
  have WL : Hid (ws1.length = ks.length) := by rw [hws]; exact hne
  have WB := hide hb
  rw [← hws] at WB
  rw [← hws, ← hd1]
  replace hws := hide hws
  replace hd1 := hide hd1
  have HNE := hide hne
  clear hne hne2 hb
  go_enter Tryd.func23, Tryd.ntmps23
  go_wp2_with (first
      | (go_at_call 32; refine HB.out.mono ?_; rintro e w1 ⟨rfl, K1, G1⟩; have P1 := hide (HP.out w1 G1 K1); rw [hks2.out] at P1; replace K1 := hide K1; replace G1 := hide G1)
      | (go_at_call 33; refine P1.out.mono ?_; rintro e w2 ⟨v, xs, rfl, o2, r2, g2⟩; obtain ⟨pa, pc, rfl⟩ := own_shape o2; have K2 := K1.out.on g2; have W2 := (HT.out w1 G1.out).on (w' := w2) fun b hb hl => g2.block b hl (by simp); have I2 := hide (isQuiet_any (K2.nil_ rfl) W2 ks.length (by omega)); rw [hq.out] at I2; replace K2 := hide K2; replace W2 := hide W2; replace o2 := hide o2; replace r2 := hide r2; replace g2 := hide g2)
      | (go_at_call 34; refine I2.out.mono ?_; rintro e w3 ⟨rfl, rfl⟩))
  have L3 : Hid (Dr wB w2.heap.size D w2 d1) := by rw [hd1.out]; exact K2.out.lift rfl (Nat.lt_of_lt_of_le K1.out.hi (Nat.le_trans G1.out.size g2.out.size)) (Nat.le_refl _)
  have LG : Hid (GD w2.heap.size D w2 w2) := Gr.refl _ _
  have L2 : Hid (Wu (fun b => b ≠ D) w2 a1 ks.length c1 ws1) := by rw [hws.out]; exact W2.out
  have LW : Hid (Gr (fun k => k = D) w w2) := (gd_gr G1.out (Nat.le_refl _)).trans ⟨g2.out.os, g2.out.tape, g2.out.output, g2.out.size, fun b hb hn => g2.out.block b hb (by simp)⟩
  go_loopw [6, 45] (fun fv i wr => ∃ (k : Nat) (di : Dv) (f : List UInt8), k ≤ ks.length ∧ i = .int .i64 k ∧ fv = .string (mkB f) ∧ di.keys.length ≤ k ∧ Hid (Dr wB w2.heap.size D wr di) ∧ Hid (GD w2.heap.size D w2 wr) ∧ Hid (runR (ks.drop k) (ws1.drop k) di f = runR ks ws1 d1 [])) (fun _ i _ => ks.length - (intOf i).toNat)
  case atStart => exact ⟨0, d1, [], Nat.zero_le _, rfl, rfl, by rw [hd1k]; exact Nat.le_refl _, L3.out, LG.out, rfl⟩
  case round =>
    obtain ⟨k, di, f, hk, rfl, rfl, hdk, HD, HG, HR⟩ := hrel
    by_cases hlt : k < ks.length
    · have hki : (k : Int) < (ks.length : Int) := by omega
      have e1 : wrap64 ((k : Int) + 1) = (k : Int) + 1 := by unfold wrap64; omega
      have hwk : k < ws1.length := by rw [WL.out]; exact hlt
      have U := L2.out.on (w' := wr) fun b hb hl => HG.out.block b hl (by omega)
      obtain ⟨wb, wo, ha2, cw⟩ := U.get (i := k) hlt
      obtain ⟨pb, pc', ep⟩ := own_form o2.out (by omega : 0 < ks.length)
      cases ep
      obtain ⟨v, hv⟩ : ∃ v, xs[k]? = some v := ⟨_, List.getElem?_eq_getElem (by rw [r2.out.1]; exact hlt)⟩
      have pb1 : w1.heap.size ≤ pb ∧ pb < w2.heap.size := ⟨(own_at o2.out rfl).1, (own_at o2.out rfl).2.1⟩
      have hDlo := K1.out.hi
      have hG1 := G1.out.size
      have cp : wr.cell? ⟨pb, k, none⟩ = some v := (World.cell?_of_block (a := ⟨pb, k, none⟩) (HG.out.block pb pb1.2 (by omega))).trans ((o2.out.cellAt k (by have := o2.out.1; rw [r2.out.1] at this; omega)).trans hv)
      have rd := (r2.out.2 k _ v (List.getElem?_eq_getElem hlt) hv).at_ (Nat.le_refl _) HG.out
      have cr := rd.calls (x := ws1[k]) hL HD.out (by omega) (WB.out _ (List.getElem_mem hwk))
      have hst := hide (runR_step hlt hwk di f)
      have hkn := readW_keys ks[k] di ws1[k]
      generalize ks[k] = kd at *
      generalize ws1[k] = xk at *
      have hdk2 : (readW kd di xk).1.keys.length ≤ k + 1 := Nat.le_trans hkn (by omega)
      obtain ⟨r, hr⟩ : ∃ r, readW kd di xk = r := ⟨_, rfl⟩
      unfold CallsRd at cr
      rw [hr] at hst hdk2 cr
      have HR2 : Hid (runR (ks.drop (k + 1)) (ws1.drop (k + 1)) r.1 (if f = [] then r.2 else f) = runR ks ws1 d1 []) := hst.out.symm.trans HR.out
      subst ha2
      clear hv rd hkn hr U pb1 hDlo hG1 hst HR hwk hdk HD
      rcases cr with ⟨rfl, cc⟩ | ⟨rfl, cc⟩ | ⟨g, fb, p, rfl, cc⟩
      · replace cc := hide cc
        go_wp2_with (first
          | (go_at_call 44; refine cc.out.mono ?_; rintro e w4 ⟨rfl, K4, G4⟩; have t4 := two_new (e := 9) w4 (.string (mkB f)) (.string (mkB r.2)); replace K4 := hide (K4.on (World.grownBy_alloc w4 (.cells #[.string (mkB f), .string (mkB r.2)] 9) none)); replace G4 := hide ((HG.out.trans G4).trans (GD.of (World.grownBy_alloc w4 (.cells #[.string (mkB f), .string (mkB r.2)] 9) none))); replace t4 := hide t4)
          | (go_at_call 35; refine (or_any t4.out.1 t4.out.2).mono ?_; rintro e w5 ⟨rfl, rfl⟩))
        go_roundw
        case rel => exact ⟨k + 1, r.1, _, by omega, by go_num, rfl, hdk2, K4.out, G4.out, HR2⟩
        case measure => simp [intOf]; omega
      · replace cc := hide cc
        go_wp2_with (first
          | (go_at_call 42; refine cc.out.mono ?_; rintro e w4 ⟨rfl, K4, G4⟩; have t4 := two_new (e := 9) w4 (.string (mkB f)) (.string (mkB r.2)); replace K4 := hide (K4.on (World.grownBy_alloc w4 (.cells #[.string (mkB f), .string (mkB r.2)] 9) none)); replace G4 := hide ((HG.out.trans G4).trans (GD.of (World.grownBy_alloc w4 (.cells #[.string (mkB f), .string (mkB r.2)] 9) none))); replace t4 := hide t4)
          | (go_at_call 35; refine (or_any t4.out.1 t4.out.2).mono ?_; rintro e w5 ⟨rfl, rfl⟩))
        go_roundw
        case rel => exact ⟨k + 1, r.1, _, by omega, by go_num, rfl, hdk2, K4.out, G4.out, HR2⟩
        case measure => simp [intOf]; omega
      · replace cc := hide cc
        go_wp2_with (first
          | (go_at_call 53; refine cc.out.mono ?_; rintro e w4 ⟨rfl, K4, G4⟩; have t4 := two_new (e := 9) w4 (.string (mkB f)) (.string (mkB r.2)); replace K4 := hide (K4.on (World.grownBy_alloc w4 (.cells #[.string (mkB f), .string (mkB r.2)] 9) none)); replace G4 := hide ((HG.out.trans G4).trans (GD.of (World.grownBy_alloc w4 (.cells #[.string (mkB f), .string (mkB r.2)] 9) none))); replace t4 := hide t4)
          | (go_at_call 35; refine (or_any t4.out.1 t4.out.2).mono ?_; rintro e w5 ⟨rfl, rfl⟩))
        go_roundw
        case rel => exact ⟨k + 1, r.1, _, by omega, by go_num, rfl, hdk2, K4.out, G4.out, HR2⟩
        case measure => simp [intOf]; omega
    · obtain rfl : k = ks.length := by omega
      have hki : ¬ (ks.length : Int) < (ks.length : Int) := by omega
      have hR := HR.out
      rw [runR_end (Nat.le_refl _)] at hR
      have HF : Hid (runR ks ws1 d1 [] = (di, f)) := hR.symm
      have HDn := hide (show ReadsOk wB D w wr di from ⟨⟨_, HD.out⟩, gd_gr2 LW.out (HG.out)⟩)
      clear hR HR HD HG hlt hk hdk
      go_wp2
      go_ret
      rw [HF.out]
      exact ⟨rfl, HDn.out.1, HDn.out.2⟩
end
end Go.Proofs.YthofdmepofepgaaDoor
