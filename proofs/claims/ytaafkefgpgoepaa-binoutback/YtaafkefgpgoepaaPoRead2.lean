/- Package binout's parts of a whole answer, each in memory of its own. Conditions: at most 200000 bytes. -/
import Derived.Test.YtaafkefgpgoepaaPoRead1
import Derived.Test.YtaafkefgpgoepaaPtRow
namespace Go.Proofs.Ytaafkefgpgoepaa
set_option linter.unusedVariables false
set_option linter.unusedSimpArgs false
open Go.RowKit Go.Shelf

section
variable {w : World} {g off len : Nat} {b : List UInt8}
theorem bu_old {n c : Nat} (h : Bu w (some ⟨g, off, none⟩) n c b) (h0 : n ≠ 0) : g < w.heap.size := by
  rcases h.b with ⟨h1, _, _⟩ | ⟨b', off', r⟩
  · exact absurd h1 h0
  · obtain rfl : g = b' := by have := r.at_; cases this; rfl
    exact r.old
theorem gr_row {a b : World} {B : Nat} (h : a.grownBy b none) : a.grownBy b (some B) := gr_any h _
set_option maxRecDepth 100000 in
set_option maxHeartbeats 4000000 in
theorem pcut_any {x k v : Nat} (h : Bu w (some ⟨g, off, none⟩) len len b) (hx : by4 b = (x : Int)) (hk : getB b 2 2 = (k : Int)) (hl : len = 24 + x + k + v) (hm : len ≤ 200000) :
    Calls Try.prog 24 #[.slice (some ⟨g, off, none⟩) len len] w fun e w' => ∃ xa xc ka kc va vc, e = .returned (.agg (pt3 xa x xc ka k kc va v vc)) ∧ (∀ W', Hi w.heap.size w' W' → Bu W' xa x xc ((b.drop 24).take x) ∧ Bu W' ka k kc ((b.drop (24 + x)).take k) ∧ Bu W' va v vc ((b.drop (24 + x + k)).take v)) ∧ w.grownBy w' none := by
  have hn := h.n
  obtain ⟨o1, s1, b1⟩ := h.sub3 (i := 24) (m := x) (by omega) 24 (24 + (x : Int)) rfl rfl
  obtain ⟨o2, s2, b2⟩ := h.sub3 (i := 24 + x) (m := k) (by omega) (24 + (x : Int)) (24 + (x : Int) + (k : Int)) (by push_cast; rfl) (by push_cast; rfl)
  obtain ⟨o3, s3, b3⟩ := h.sub3 (i := 24 + x + k) (m := v) (by omega) (24 + (x : Int) + (k : Int)) (len : Int) (by push_cast; rfl) (by rw [hl]; push_cast; rfl)
  have hold := bu_old h (by omega)
  have P0 := PtS.make w (pt3 none 0 0 none 0 0 none 0 0)
  obtain ⟨V, hV⟩ : ∃ V, V = w.alloc (.cells (pt3 none 0 0 none 0 0 none 0 0) 38) := ⟨_, rfl⟩
  obtain ⟨B, hB⟩ : ∃ B, B = w.heap.size := ⟨_, rfl⟩
  rw [← hV, ← hB] at P0
  have hne : g ≠ B := by omega
  have hV1 : Bu V (some ⟨g, off, none⟩) len len b := h.on (below_gr P0.gr)
  have HE := hide (pends_any hV1 (by omega))
  rw [hx, hk] at HE
  have C1 := hide (fun (W : World) (hg : V.grownBy W (some B)) => sclone_any (by omega) (b1 W (hV1.far hg hne)))
  have C2 := hide (fun (W : World) (hg : V.grownBy W (some B)) => sclone_any (by omega) (b2 W (hV1.far hg hne)))
  have C3 := hide (fun (W : World) (hg : V.grownBy W (some B)) => sclone_any (by omega) (b3 W (hV1.far hg hne)))
  have L1 : Hid (((b.drop 24).take x).length = x) := by show _ = _; rw [List.length_take, List.length_drop]; omega
  have L2 : Hid (((b.drop (24 + x)).take k).length = k) := by show _ = _; rw [List.length_take, List.length_drop]; omega
  have L3 : Hid (((b.drop (24 + x + k)).take v).length = v) := by show _ = _; rw [List.length_take, List.length_drop]; omega
  generalize (b.drop 24).take x = p1 at *
  generalize (b.drop (24 + x)).take k = p2 at *
  generalize (b.drop (24 + x + k)).take v = p3 at *
  replace P0 := hide P0
  have G0 := hide (gr_refl V (some B))
  have N1 : Hid (w = w) := rfl
  clear h hV1 hx hk hl hm hn b1 b2 b3 hold hne
  simp only [pt3] at hV
  go_enter Try.func24, Try.ntmps24
  go_upto_region 1 with fail
  rw [← hV, ← hB]
  clear hV hB
  go_wp2_with (first
    | (go_at_call 30; refine HE.out.mono ?_; rintro e w2 ⟨rfl, hw2⟩; rw [hw2]; clear hw2)
    | (have t := N1; clear t; go_at_call 31; go_loud (refine (C1.out _ G0.out).mono ?_; rintro e w1 ⟨a1, c1, rfl, v1, g1⟩; obtain ⟨W1, e1, d1, f1, P1, G1, q1⟩ := pt_step P0.out G0.out g1 (j := 0) (old := .slice none 0 0) rfl (.slice a1 x c1); have z1 := hide (P0.out.lt); replace P1 := hide P1; replace G1 := hide G1; replace q1 := hide q1; replace v1 := hide v1; clear N1 g1 C1; have N2 : Hid (w1 = w1) := rfl))
    | (have t := N2; clear t; go_at_call 31; go_loud (refine (C2.out _ G1.out).mono ?_; rintro e w2 ⟨a2, c2, rfl, v2, g2⟩; obtain ⟨W2, e2, d2, f2, P2, G2, q2⟩ := pt_step P1.out G1.out g2 (j := 1) (old := .slice none 0 0) rfl (.slice a2 k c2); have z2 := hide (P1.out.lt); have r1 := hide (gr_self (gr_trans q1.out (gr_row g2)) q2); replace P2 := hide P2; replace G2 := hide G2; replace q2 := hide q2; replace v2 := hide v2; clear N2 g2 C2 e1 d1 f1; have N3 : Hid (w2 = w2) := rfl))
    | (have t := N3; clear t; go_at_call 31; go_loud (refine (C3.out _ G2.out).mono ?_; rintro e w3 ⟨a3, c3, rfl, v3, g3⟩; obtain ⟨W3, e3, d3, f3, P3, G3, q3⟩ := pt_step P2.out G2.out g3 (j := 2) (old := .slice none 0 0) rfl (.slice a3 v c3); have z3 := hide (P2.out.lt); replace r1 := hide (gr_self (gr_trans r1.out (gr_row g3)) q3); have r2 := hide (gr_self (gr_trans q2.out (gr_row g3)) q3); have r3 := hide q3; replace P3 := hide (show PtS w W3 B (pt3 a1 x c1 a2 k c2 a3 v c3) from P3); clear N3 g3 C3 e2 d2 f2 G3 q3; have N4 : Hid (w3 = w3) := rfl))
    | (have t := N4; clear t; refine wpList_load_row rfl 38 _ rfl B rfl _ _ _ _ P3.out.row Try.underlying38 rfl (pt3_size _ _ _ _ _ _ _ _ _) ?_; clear N4)
    | (refine wpList_store_row rfl 38 _ _ rfl B (pt3 a1 x c1 a2 k c2 a3 v c3) rfl rfl _ _ P3.out.row (pt3_size _ _ _ _ _ _ _ _ _) rfl (pt3_one _ _ _ _ _ _ _ _ _) ?_; obtain ⟨W4, e4, P4, q4⟩ : ∃ W4, W3.setRow B (pt3 a1 x c1 a2 k c2 a3 v c3) = W4 ∧ PtS w W4 B (pt3 a1 x c1 a2 k c2 a3 v c3) ∧ W3.grownBy W4 (some B) := ⟨_, rfl, (P3.out.again _).1, (P3.out.again _).2⟩; rw [e4]; clear e4; replace P4 := hide P4; replace q4 := hide q4))
  refine bodyPost_ret (results_cell_row rfl _ _ B 38 (pt3 a1 x c1 a2 k c2 a3 v c3) (0, 0) _ rfl P4.out.row Try.underlying38 rfl (pt3_size _ _ _ _ _ _ _ _ _)) rfl ?_
  have zB : w.heap.size ≤ B := P4.out.new
  refine ⟨a1, c1, a2, c2, a3, c3, rfl, fun W' hW => ⟨?_, ?_, ?_⟩, P4.out.gr⟩
  · have := val_hi v1.out ((Hi.of (gr_self r1.out q4.out) z1.out).trans (hW.up (by have := z1.out; omega)))
    rwa [L1.out] at this
  · have := val_hi v2.out ((Hi.of (gr_self r2.out q4.out) z2.out).trans (hW.up (by have := z2.out; omega)))
    rwa [L2.out] at this
  · have := val_hi v3 ((Hi.of (gr_self r3.out q4.out) z3.out).trans (hW.up (by have := z3.out; omega)))
    rwa [L3.out] at this
end
end Go.Proofs.Ytaafkefgpgoepaa
