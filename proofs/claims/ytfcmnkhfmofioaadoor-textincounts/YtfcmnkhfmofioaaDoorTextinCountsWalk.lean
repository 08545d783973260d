/- TextinCounts returns true for all numbers, and writes nothing that was there. Conditions: the listed variables hold what the program's text lays. -/
import Derived.Test.YtfcmnkhfmofioaaDoorG12Joined
import Derived.Test.YtfcmnkhfmofioaaDoorTextCtM
import Derived.Test.YtfcmnkhfmofioaaDoorRefShow12
namespace Go.Proofs.YtfcmnkhfmofioaaDoor
set_option linter.unusedVariables false
open Go.RowKit

theorem ct_list (a : Array UInt8) (X : ByteArray) (b : Array UInt8) : ((⟨a⟩ : ByteArray) ++ X ++ (⟨b⟩ : ByteArray)).data.toList = a.toList ++ X.data.toList ++ b.toList := by
  rw [ByteArray.data_append, ByteArray.data_append, Array.toList_append, Array.toList_append]
theorem ct_size (a : Array UInt8) (X : ByteArray) (b : Array UInt8) : ((⟨a⟩ : ByteArray) ++ X ++ (⟨b⟩ : ByteArray)).size = a.size + X.size + b.size := by
  rw [ByteArray.size_append, ByteArray.size_append]; rfl
/-- The digits of a number as a text. -/
def dgB (n : Nat) : ByteArray := ⟨(Lib.decDigits n).toArray⟩
theorem dgB_list (n : Nat) : (dgB n).data.toList = Lib.decDigits n := rfl
theorem dgB_size (n : Nat) (hn : n < 18446744073709551616) : (dgB n).size ≤ 20 := by
  have := digits_len n hn
  have e : (dgB n).size = (Lib.decDigits n).length := by rw [← size_list, dgB_list]
  omega
theorem txt_A (d : Nat) : ((⟨#[105, 110, 99, 114, 32, 107, 32]⟩ : ByteArray) ++ dgB d ++ (⟨#[13, 10]⟩ : ByteArray)).data.toList = ctA d ++ [13, 10] := by
  rw [ct_list]; simp [dgB_list, ctA, vb_incr, t_k]
theorem txt_C (d : Nat) : ((⟨#[99, 97, 115, 32, 107, 32, 48, 32, 48, 32, 48, 32]⟩ : ByteArray) ++ dgB d ++ (⟨#[13, 10, 13, 10]⟩ : ByteArray)).data.toList = ctC d ++ [13, 10, 13, 10] := by
  rw [ct_list]; simp [dgB_list, ctC, vb_cas, t_k, t_0]
theorem txt_B (f e : Nat) : ((⟨#[115, 101, 116, 32, 107, 32]⟩ : ByteArray) ++ dgB f ++ (⟨#[32]⟩ : ByteArray) ++ dgB e ++ (⟨#[32, 48, 13, 10, 13, 10]⟩ : ByteArray)).data.toList = ctB f e ++ [13, 10, 13, 10] := by
  rw [ByteArray.data_append, ByteArray.data_append, Array.toList_append, Array.toList_append, ct_list]; simp [dgB_list, ctB, vb_set, t_k, t_0]
theorem size_B (X Y : ByteArray) : ((⟨#[115, 101, 116, 32, 107, 32]⟩ : ByteArray) ++ X ++ (⟨#[32]⟩ : ByteArray) ++ Y ++ (⟨#[32, 48, 13, 10, 13, 10]⟩ : ByteArray)).size = 6 + X.size + 1 + Y.size + 6 := by
  rw [ByteArray.size_append, ByteArray.size_append, ct_size]; rfl
theorem ct_cmd {w : World} {s : Sv} {c : Cv} {ca ta ka : Option Addr} {cc tc kc : Nat} (hc : s.req.cmds = [c]) (q : QAt w s.req ca cc ta tc ka kc) : ∃ b off va vc, ca = some ⟨b, off, none⟩ ∧ w.rangeAt b off (cmC c va vc).toList := by
  have h := q.cmds
  rw [hc] at h
  obtain ⟨b, off, e, va, vc, h1, h2⟩ := h.get (i := 0) (by simp)
  refine ⟨b, off, va, vc, e, ?_⟩
  have e0 : off + 0 * 10 = off := by omega
  rw [e0] at h1
  exact h1
/-- One step that was parsed, in a block of its own. -/
def CtAt (W : World) (P : Nat) (c : Cv) : Prop := ∃ ca cc, W.cell? ⟨P, 0, none⟩ = some (.slice ca 1 cc) ∧ ∃ b off va vc, ca = some ⟨b, off, none⟩ ∧ W.rangeAt b off (cmC c va vc).toList
theorem CtAt.keep {W W' : World} {P : Nat} {c : Cv} (h : CtAt W P c) (hg : W.grownBy W' none) : CtAt W' P c := by
  obtain ⟨ca, cc, h1, b, off, va, vc, e, h2⟩ := h
  exact ⟨ca, cc, cell_keep hg h1, b, off, va, vc, e, fun j v hv => cell_keep hg (h2 j v hv)⟩
theorem ct_new {w w2 W2 : World} {s : Sv} {c : Cv} {ca ta ka : Option Addr} {cc tc kc P : Nat} (hc : s.req.cmds = [c]) (q : ∀ W' : World, (∀ k, w.heap.size ≤ k → k < w2.heap.size → W'.heap[k]? = w2.heap[k]?) → w2.heap.size ≤ W'.heap.size → QAt W' s.req ca cc ta tc ka kc) (hW2 : W2 = w2.alloc (.cells (stC s ca cc ta tc ka kc) 34)) (hP : P = w2.heap.size) : CtAt W2 P c := by
  have k2 : w2.grownBy W2 none := by rw [hW2]; exact World.grownBy_alloc _ _ _
  have n1 : W2.heap[P]? = some (.cells (stC s ca cc ta tc ka kc) 34 (0, 0)) := by rw [hW2, hP]; exact World.alloc_heap_new _ _
  have q2 := q W2 (fun k _ hk => k2.block k hk (by simp)) k2.size
  have e : s.req.cmds.length = 1 := by rw [hc]; rfl
  refine ⟨ca, cc, ?_, ct_cmd hc q2⟩
  rw [st_cell n1 0 (.slice ca s.req.cmds.length cc) rfl, e]
section
variable {W : World}
set_option maxRecDepth 100000 in
set_option maxHeartbeats 4000000 in
theorem counts_in (hL : Laid W) (d f x : Nat) (hd : d < 18446744073709551616) (hf : f < 4294967296) (he : x < 4294967296) : Calls Tryd.prog 4 #[.int .u64 (d : Int), .int .u32 (f : Int), .int .u32 (x : Int)] W fun e W' => e = .returned (.bool true) ∧ Below W.heap.size W W' := by
  have HSD := hide (fun (w : World) => refShow_nat d hd w)
  have HSF := hide (fun (w : World) => refShow_nat f (by omega) w)
  have HSE := hide (fun (w : World) => refShow_nat x (by omega) w)
  have zD := dgB_size d hd
  have zF := dgB_size f (by omega)
  have zE := dgB_size x (by omega)
  have TA := hide (fun (w : World) (hl : Laid w) => text_parse hl ((⟨#[105, 110, 99, 114, 32, 107, 32]⟩ : ByteArray) ++ dgB d ++ (⟨#[13, 10]⟩ : ByteArray)) (by rw [ct_size]; simp; omega))
  have TB := hide (fun (w : World) (hl : Laid w) => text_parse hl ((⟨#[115, 101, 116, 32, 107, 32]⟩ : ByteArray) ++ dgB f ++ (⟨#[32]⟩ : ByteArray) ++ dgB x ++ (⟨#[32, 48, 13, 10, 13, 10]⟩ : ByteArray)) (by rw [size_B]; omega))
  have TC := hide (fun (w : World) (hl : Laid w) => text_parse hl ((⟨#[99, 97, 115, 32, 107, 32, 48, 32, 48, 32, 48, 32]⟩ : ByteArray) ++ dgB d ++ (⟨#[13, 10, 13, 10]⟩ : ByteArray)) (by rw [ct_size]; simp; omega))
  rw [txt_A] at TA
  rw [txt_B] at TB
  rw [txt_C] at TC
  have PA := hide (parse_A d hd)
  have PB := hide (parse_B f x hf he)
  have PC := hide (parse_C d hd)
  generalize parseN (ctA d ++ [13, 10]) = sA at *
  generalize parseN (ctB f x ++ [13, 10, 13, 10]) = sB at *
  generalize parseN (ctC d ++ [13, 10, 13, 10]) = sC at *
  change Hid (∀ w : World, Calls Tryd.prog 9 #[.int .u64 (d : Int)] w fun e w' => e = .returned (.string (dgB d)) ∧ Below w.heap.size w w') at HSD
  change Hid (∀ w : World, Calls Tryd.prog 9 #[.int .u64 (f : Int)] w fun e w' => e = .returned (.string (dgB f)) ∧ Below w.heap.size w w') at HSF
  change Hid (∀ w : World, Calls Tryd.prog 9 #[.int .u64 (x : Int)] w fun e w' => e = .returned (.string (dgB x)) ∧ Below w.heap.size w w') at HSE
  generalize dgB d = XD at *
  generalize dgB f = XF at *
  generalize dgB x = XE at *
  have i1 : ¬ 9223372036854775807 < 7 + XD.size := by omega
  have i2 : ¬ 9223372036854775807 < 7 + XD.size + 2 := by omega
  have i3 : ¬ 9223372036854775807 < 6 + XF.size := by omega
  have i4 : ¬ 9223372036854775807 < 6 + XF.size + 1 := by omega
  have i5 : ¬ 9223372036854775807 < 6 + XF.size + 1 + XE.size := by omega
  have i6 : ¬ 9223372036854775807 < 6 + XF.size + 1 + XE.size + 6 := by omega
  have i7 : ¬ 9223372036854775807 < 12 + XD.size := by omega
  have i8 : ¬ 9223372036854775807 < 12 + XD.size + 4 := by omega
  have e1 : wrap64 (x : Int) = (x : Int) := by unfold wrap64; omega
  have HL := hide hL
  have N0 : Hid (W = W) := rfl
  clear hL zD zF zE
  go_enter Tryd.func4, Tryd.ntmps4
  go_wp2_with (first
    | (go_at_call 5; refine (awake_any HL.out).mono ?_; rintro e w1 ⟨rfl, g1⟩; replace HL := hide (HL.out.on (below_gr g1)); replace g1 := hide g1)
    | (go_at_call 9; have t := N0; clear t; refine (HSD.out _).mono ?_; rintro e w2 ⟨rfl, b2⟩; have g2 := hide (gr_of_below b2); replace HL := hide (HL.out.on (below_gr g2.out)); clear b2; obtain ⟨x1, v1, k1, C1⟩ := TA.out w2 HL.out; rw [ct_size] at k1 C1; replace C1 := hide C1; clear N0; have N1 : Hid (W = W) := rfl)
    | (go_at_call 7; have t := N1; clear t; refine C1.out.mono ?_; rintro e w3 ⟨ca, cc, ta, tc, ka, kc, rfl, q1, g3⟩; obtain ⟨W3, hW3⟩ : ∃ W3, W3 = w3.alloc (.cells (stC sA ca cc ta tc ka kc) 34) := ⟨_, rfl⟩; obtain ⟨P1, hP1⟩ : ∃ P1, P1 = w3.heap.size := ⟨_, rfl⟩; have A1 := hide (ct_new PA.out q1 hW3 hP1); have g4 := hide (gr_trans g3 (by rw [hW3]; exact World.grownBy_alloc _ _ _ : w3.grownBy W3 none)); replace HL := hide (HL.out.on (below_gr g4.out)); clear g3 q1 N1; replace hW3 := hide hW3; replace hP1 := hide hP1; have N2 : Hid (W = W) := rfl)
    | (have t := N2; clear t; refine wpList_store_row rfl 34 _ _ rfl w3.heap.size (stC sA ca cc ta tc ka kc) rfl rfl _ _ (World.alloc_heap_new w3 _) (step_size _ _ _ _ _ _ _) rfl (step_one _ _ _ _ _ _ _) ?_; rw [setRow_alloc, ← hW3.out, ← hP1.out]; clear N2; have N3 : Hid (W = W) := rfl)
    | (go_at_call 9; have t := N3; clear t; refine (HSF.out _).mono ?_; rintro e w5 ⟨rfl, b5⟩; have g5 := hide (gr_of_below b5); replace HL := hide (HL.out.on (below_gr g5.out)); clear b5 N3; have N4 : Hid (W = W) := rfl)
    | (go_at_call 9; have t := N4; clear t; refine (HSE.out _).mono ?_; rintro e w6 ⟨rfl, b6⟩; have g6 := hide (gr_of_below b6); replace HL := hide (HL.out.on (below_gr g6.out)); clear b6 N4; obtain ⟨x2, v2, k2, C2⟩ := TB.out w6 HL.out; rw [size_B] at k2 C2; replace C2 := hide C2; have N5 : Hid (W = W) := rfl)
    | (go_at_call 7; have t := N5; clear t; refine C2.out.mono ?_; rintro e w7 ⟨cb, cd, tb, td, kb, kd, rfl, q2, g7⟩; obtain ⟨W7, hW7⟩ : ∃ W7, W7 = w7.alloc (.cells (stC sB cb cd tb td kb kd) 34) := ⟨_, rfl⟩; obtain ⟨P2, hP2⟩ : ∃ P2, P2 = w7.heap.size := ⟨_, rfl⟩; have A2 := hide (ct_new PB.out q2 hW7 hP2); have g8 := hide (gr_trans g7 (by rw [hW7]; exact World.grownBy_alloc _ _ _ : w7.grownBy W7 none)); replace HL := hide (HL.out.on (below_gr g8.out)); clear g7 q2 N5; replace hW7 := hide hW7; replace hP2 := hide hP2; have N6 : Hid (W = W) := rfl)
    | (have t := N6; clear t; refine wpList_store_row rfl 34 _ _ rfl w7.heap.size (stC sB cb cd tb td kb kd) rfl rfl _ _ (World.alloc_heap_new w7 _) (step_size _ _ _ _ _ _ _) rfl (step_one _ _ _ _ _ _ _) ?_; rw [setRow_alloc, ← hW7.out, ← hP2.out]; clear N6; have N7 : Hid (W = W) := rfl)
    | (go_at_call 9; have t := N7; clear t; refine (HSD.out _).mono ?_; rintro e w9 ⟨rfl, b9⟩; have g9 := hide (gr_of_below b9); replace HL := hide (HL.out.on (below_gr g9.out)); clear b9 N7; obtain ⟨x3, v3, k3, C3⟩ := TC.out w9 HL.out; rw [ct_size] at k3 C3; replace C3 := hide C3; have N8 : Hid (W = W) := rfl)
    | (go_at_call 7; have t := N8; clear t; refine C3.out.mono ?_; rintro e wA ⟨cf, cg, tf, tg, kf, kg, rfl, q3, gA⟩; obtain ⟨WA, hWA⟩ : ∃ WA, WA = wA.alloc (.cells (stC sC cf cg tf tg kf kg) 34) := ⟨_, rfl⟩; obtain ⟨P3, hP3⟩ : ∃ P3, P3 = wA.heap.size := ⟨_, rfl⟩; have A3 := hide (ct_new PC.out q3 hWA hP3); have gB := hide (gr_trans gA (by rw [hWA]; exact World.grownBy_alloc _ _ _ : wA.grownBy WA none)); clear gA q3 N8; replace hWA := hide hWA; replace hP3 := hide hP3; have N9 : Hid (W = W) := rfl)
    | (have t := N9; clear t; refine wpList_store_row rfl 34 _ _ rfl wA.heap.size (stC sC cf cg tf tg kf kg) rfl rfl _ _ (World.alloc_heap_new wA _) (step_size _ _ _ _ _ _ _) rfl (step_one _ _ _ _ _ _ _) ?_; rw [setRow_alloc, ← hWA.out, ← hP3.out]; clear N9; have GC := gr_trans g9.out gB.out; have GBC := gr_trans g5.out (gr_trans g6.out (gr_trans g8.out GC)); obtain ⟨sa, sca, s1, b1, o1, va1, vc1, rfl, r1⟩ := A1.out.keep GBC; obtain ⟨sb, scb, s2, b2, o2, va2, vc2, rfl, r2⟩ := A2.out.keep GC; obtain ⟨sc, scc, s3, b3, o3, va3, vc3, rfl, r3⟩ := A3.out; have y1 := r1 6 (.int .u64 d) rfl; have y2 := r2 3 (.int .u32 f) rfl; have y3 := r2 4 (.int .i64 x) rfl; have y4 := r3 5 (.int .u64 d) rfl; clear r1 r2 r3; replace GBC := hide GBC; clear GC))
  go_ret
  exact ⟨by first | rfl | (simp; done), below_gr (gr_trans g1.out (gr_trans g2.out (gr_trans g4.out GBC.out)))⟩
end
theorem textinCounts_walk (a0 : Int) (w0 : (Lit.int .u64 a0).wf = true) (a1 : Int) (w1 : (Lit.int .u32 a1).wf = true) (a2 : Int) (w2 : (Lit.int .u32 a2).wf = true) (W : World) (hL : Laid W) : Calls Tryd.prog 4 #[.int .u64 a0, .int .u32 a1, .int .u32 a2] W fun e W' => e = .returned (.bool true) ∧ Below W.heap.size W W' := by
  have h0 : 0 ≤ a0 ∧ a0 ≤ 18446744073709551615 := by
    have e1 : IntKind.u64.min = 0 := rfl
    have e2 : IntKind.u64.max = 18446744073709551615 := rfl
    simp [Lit.wf, e1, e2] at w0
    exact w0
  have h1 : 0 ≤ a1 ∧ a1 ≤ 4294967295 := by
    have e1 : IntKind.u32.min = 0 := rfl
    have e2 : IntKind.u32.max = 4294967295 := rfl
    simp [Lit.wf, e1, e2] at w1
    exact w1
  have h2 : 0 ≤ a2 ∧ a2 ≤ 4294967295 := by
    have e1 : IntKind.u32.min = 0 := rfl
    have e2 : IntKind.u32.max = 4294967295 := rfl
    simp [Lit.wf, e1, e2] at w2
    exact w2
  obtain ⟨d, rfl⟩ := Int.eq_ofNat_of_zero_le h0.1
  obtain ⟨f, rfl⟩ := Int.eq_ofNat_of_zero_le h1.1
  obtain ⟨e, rfl⟩ := Int.eq_ofNat_of_zero_le h2.1
  exact counts_in hL d f e (by omega) (by omega) (by omega)
end Go.Proofs.YtfcmnkhfmofioaaDoor
