/- Package binout's measure of an answer, where its parts end, and these in memory of their own. Conditions: the bytes lie in memory, at most 200000. Package binout's parts of a whole answer, each in memory of its own. Conditions: at most 200000 bytes. Package binout's Read: the answer that bytes begin with, or none. Conditions: at most 200000 bytes. -/
import Derived.Test.YtaafkefgpgoepaaBinPGet
import Derived.Test.YtaafkefgpgoepaaSub3
import Derived.Test.YtaafkefgpgoepaaSlClone
import Derived.Test.YtaafkefgpgoepaaBoRM
import Derived.Test.YtaafkefgpgoepaaG37Joined
import Derived.Test.YtaafkefgpgoepaaBoLib
namespace Go.Proofs.Ytaafkefgpgoepaa
set_option linter.unusedVariables false
set_option linter.unusedSimpArgs false
open Go.RowKit Go.Shelf

section
variable {w : World} {a : Option Addr} {g off len cap : Nat} {b : List UInt8}
theorem first_byteD (h : Bu w (some ⟨g, off, none⟩) len cap b) (i : Nat) (hi : i < len) : w.cell? ⟨g, off + i, none⟩ = some (.int .u8 ((b.getD i 0).toNat : Int)) := by
  have hn := h.n
  rw [first_byte h i (by omega), List.getD_eq_getElem?_getD, List.getElem?_eq_getElem (by omega)]
  rfl
/-- What a head's numbers are at most. -/
structure HdB (b : List UInt8) : Prop where
  x0 : 0 ≤ by4 b
  x1 : by4 b ≤ 255
  k0 : 0 ≤ getB b 2 2
  k1 : getB b 2 2 ≤ 65535
  l0 : 0 ≤ getB b 8 4
  l1 : getB b 8 4 < 4294967296
theorem hdB_of (h : 24 ≤ b.length) : HdB b := by
  have l0 := (numB_bd ((b.drop 8).take 4)).1
  have l1 := numB_four (l := (b.drop 8).take 4) (by rw [List.length_take, List.length_drop]; omega)
  have k0 := (numB_bd ((b.drop 2).take 2)).1
  have k1 := numB_two (l := (b.drop 2).take 2) (by rw [List.length_take, List.length_drop]; omega)
  have x1 : by4 b ≤ 255 := by have := UInt8.toNat_lt (b.getD 4 0); unfold by4; omega
  exact ⟨Int.natCast_nonneg _, x1, k0, k1, l0, l1⟩
theorem w64_idP {z : Int} (h0 : 0 ≤ z) (h1 : z < 8589934592) : wrap64 z = z := by unfold wrap64; omega
set_option maxRecDepth 100000 in
set_option maxHeartbeats 4000000 in
theorem pends_any (h : Bu w (some ⟨g, off, none⟩) len cap b) (h24 : 24 ≤ len) : Calls Try.prog 30 #[.slice (some ⟨g, off, none⟩) len cap] w fun e w' => e = .returned (.tuple #[.int .i64 (24 + by4 b), .int .i64 (24 + by4 b + getB b 2 2)]) ∧ w' = w := by
  have hc := h.c
  have hn := h.n
  obtain ⟨x0, x1, k0, k1, _, _⟩ := hdB_of (b := b) (by omega)
  have c4 : w.cell? ⟨g, off + 4, none⟩ = some (.int .u8 (by4 b)) := first_byteD h 4 (by omega)
  have H1 := hide (pget_any (h.part3 2 2 (by omega)) (by decide) (by decide))
  rw [show numB ((b.drop 2).take 2) = getB b 2 2 from rfl] at H1
  generalize by4 b = x at *
  generalize getB b 2 2 = k at *
  have i1 := i64_id x0 (by omega)
  have i2 := i64_id k0 (by omega)
  have e1 : Hid (wrap64 (24 + x) = 24 + x) := w64_idP (by omega) (by omega)
  have e2 : Hid (wrap64 (24 + x + k) = 24 + x + k) := w64_idP (by omega) (by omega)
  have l4 : (4 : Int) < (len : Int) := by omega
  have d4 : (4 : Int) ≤ (cap : Int) := by omega
  have m2 : ¬ cap = 2 := by omega
  clear h hc hn h24 x0 x1 k0 k1
  go_enter Try.func30, Try.ntmps30
  go_wp2_with (go_at_call 23; refine H1.out.mono ?_; rintro e w2 ⟨rfl, rfl⟩)
  go_ret2
  exact ⟨by first | rfl | (simp only [e1.out, e2.out]; rfl), rfl⟩
set_option maxRecDepth 100000 in
set_option maxHeartbeats 4000000 in
theorem pmeas_short (h : len < 24) : Calls Try.prog 22 #[.slice a len cap] w fun e w' => e = .returned (.int .i64 0) ∧ w' = w := by
  have h1 : (len : Int) < 24 := by omega
  clear h
  go_enter Try.func22, Try.ntmps22
  go_wp2
  go_ret
  exact ⟨rfl, rfl⟩
set_option maxRecDepth 100000 in
set_option maxHeartbeats 4000000 in
theorem pmeas_no (h : Bu w (some ⟨g, off, none⟩) len cap b) (h24 : 24 ≤ len) (hm : len ≤ 200000) (hr : ¬ readP b) : Calls Try.prog 22 #[.slice (some ⟨g, off, none⟩) len cap] w fun e w' => e = .returned (.int .i64 0) ∧ w' = w := by
  have hc := h.c
  have hn := h.n
  obtain ⟨x0, x1, k0, k1, l0, l1⟩ := hdB_of (b := b) (by omega)
  have hw : ¬ ((b.getD 0 0).toNat : Int) = 129 ∨ ((b.getD 0 0).toNat : Int) = 129 ∧ (1048576 : Int) ≤ getB b 8 4 ∨ ((b.getD 0 0).toNat : Int) = 129 ∧ ¬ (1048576 : Int) ≤ getB b 8 4 ∧ (len : Int) - 24 < getB b 8 4 ∨ ((b.getD 0 0).toNat : Int) = 129 ∧ ¬ (1048576 : Int) ≤ getB b 8 4 ∧ ¬ (len : Int) - 24 < getB b 8 4 ∧ 24 + getB b 8 4 < 24 + by4 b + getB b 2 2 := by
    unfold readP at hr
    omega
  have c0 := first_byteD h 0 (by omega)
  rw [Nat.add_zero] at c0
  have H1 := hide (pget_any (h.part3 8 4 (by omega)) (by decide) (by decide))
  rw [show numB ((b.drop 8).take 4) = getB b 8 4 from rfl] at H1
  have H2 := hide (pends_any h h24)
  generalize by4 b = x at *
  generalize getB b 2 2 = k at *
  generalize getB b 8 4 = l at *
  generalize ((b.getD 0 0).toNat : Int) = z at *
  have e0 : wrap64 ((len : Int) - 24) = (len : Int) - 24 := w64_idP (by omega) (by omega)
  have e1 : IntKind.u64.wrap ((len : Int) - 24) = (len : Int) - 24 := by rw [IntKind.wrap_u64]; omega
  have e2 := i64_id l0 l1
  have e3 : wrap64 (24 + l) = 24 + l := w64_idP (by omega) (by omega)
  have l2 : ¬ (len : Int) < 24 := by omega
  have l3 : (0 : Int) < (len : Int) := by omega
  have d8 : (8 : Int) ≤ (cap : Int) := by omega
  have d12 : (12 : Int) ≤ (cap : Int) := by omega
  have m8 : ¬ cap = 8 := by omega
  clear h hc hn h24 x0 x1 k0 k1 l0 l1 hr hm
  rcases hw with h1 | ⟨h1, h2⟩ | ⟨h1, h2, h3⟩ | ⟨h1, h2, h3, h4⟩
  · have z1 : (z != 129) = true := by simpa using h1
    have z2 := (show (z == 129) = false by rw [beq_eq_false_iff_ne]; exact h1)
    clear h1 H1 H2
    go_enter Try.func22, Try.ntmps22
    go_wp2
    go_ret
    exact ⟨rfl, rfl⟩
  all_goals
    subst h1
    go_enter Try.func22, Try.ntmps22
    go_wp2_with (first
      | (go_at_call 23; refine H1.out.mono ?_; rintro e w2 ⟨rfl, hw2⟩; rw [hw2]; clear hw2)
      | (go_at_call 30; refine H2.out.mono ?_; rintro e w2 ⟨rfl, hw2⟩; rw [hw2]; clear hw2))
    go_ret
    exact ⟨rfl, rfl⟩
set_option maxRecDepth 100000 in
set_option maxHeartbeats 4000000 in
theorem pmeas_yes (h : Bu w (some ⟨g, off, none⟩) len cap b) (hm : len ≤ 200000) (hr : readP b) : Calls Try.prog 22 #[.slice (some ⟨g, off, none⟩) len cap] w fun e w' => e = .returned (.int .i64 (24 + getB b 8 4)) ∧ w' = w := by
  have hc := h.c
  have hn := h.n
  obtain ⟨h24, h129, h20, hfit, hsum⟩ := hr
  rw [hn] at h24 hfit
  obtain ⟨x0, x1, k0, k1, l0, l1⟩ := hdB_of (b := b) (by omega)
  have c0 := first_byteD h 0 (by omega)
  rw [Nat.add_zero, h129] at c0
  have H1 := hide (pget_any (h.part3 8 4 (by omega)) (by decide) (by decide))
  rw [show numB ((b.drop 8).take 4) = getB b 8 4 from rfl] at H1
  have H2 := hide (pends_any h h24)
  generalize by4 b = x at *
  generalize getB b 2 2 = k at *
  generalize getB b 8 4 = l at *
  have e0 : wrap64 ((len : Int) - 24) = (len : Int) - 24 := w64_idP (by omega) (by omega)
  have e1 : IntKind.u64.wrap ((len : Int) - 24) = (len : Int) - 24 := by rw [IntKind.wrap_u64]; omega
  have e2 := i64_id l0 l1
  have e3 : wrap64 (24 + l) = 24 + l := w64_idP (by omega) (by omega)
  have l2 : ¬ (len : Int) < 24 := by omega
  have l3 : (0 : Int) < (len : Int) := by omega
  have d8 : (8 : Int) ≤ (cap : Int) := by omega
  have d12 : (12 : Int) ≤ (cap : Int) := by omega
  have m8 : ¬ cap = 8 := by omega
  have n1 : ¬ (1048576 : Int) ≤ l := by omega
  have n2 : ¬ (len : Int) - 24 < l := by omega
  have n3 : ¬ 24 + l < 24 + x + k := by omega
  clear h hc hn h24 x0 x1 k0 k1 l0 l1 hm h129 h20 hfit hsum
  go_enter Try.func22, Try.ntmps22
  go_wp2_with (first
    | (go_at_call 23; refine H1.out.mono ?_; rintro e w2 ⟨rfl, hw2⟩; rw [hw2]; clear hw2)
    | (go_at_call 30; refine H2.out.mono ?_; rintro e w2 ⟨rfl, hw2⟩; rw [hw2]; clear hw2))
  go_ret
  exact ⟨rfl, rfl⟩
end
end Go.Proofs.Ytaafkefgpgoepaa

namespace Go.Proofs.Ytaafkefgpgoepaa
set_option linter.unusedVariables false
set_option linter.unusedSimpArgs false
open Go.RowKit Go.Shelf

section
variable {w : World} {g off len : Nat} {b : List UInt8}
theorem bu_old {n c : Nat} (h : Bu w (some ⟨g, off, none⟩) n c b) (h0 : n ≠ 0) : g < w.heap.size := by
  rcases h.b with ⟨h1, _, _⟩ | ⟨b', off', r⟩
  · exact absurd h1 h0
  · obtain rfl : g = b' := by have := r.at_; cases this; rfl
    exact r.old
theorem gr_row {a b : World} {B : Nat} (h : a.grownBy b none) : a.grownBy b (some B) := gr_any h _
set_option maxRecDepth 100000 in
set_option maxHeartbeats 4000000 in
theorem pcut_any {x k v : Nat} (h : Bu w (some ⟨g, off, none⟩) len len b) (hx : by4 b = (x : Int)) (hk : getB b 2 2 = (k : Int)) (hl : len = 24 + x + k + v) (hm : len ≤ 200000) :
    Calls Try.prog 24 #[.slice (some ⟨g, off, none⟩) len len] w fun e w' => ∃ xa xc ka kc va vc, e = .returned (.agg (pt3 xa x xc ka k kc va v vc)) ∧ (∀ W', Hi w.heap.size w' W' → Bu W' xa x xc ((b.drop 24).take x) ∧ Bu W' ka k kc ((b.drop (24 + x)).take k) ∧ Bu W' va v vc ((b.drop (24 + x + k)).take v)) ∧ w.grownBy w' none := by
  have hn := h.n
  obtain ⟨o1, s1, b1⟩ := h.sub3 (i := 24) (m := x) (by omega) 24 (24 + (x : Int)) rfl rfl
  obtain ⟨o2, s2, b2⟩ := h.sub3 (i := 24 + x) (m := k) (by omega) (24 + (x : Int)) (24 + (x : Int) + (k : Int)) (by push_cast; rfl) (by push_cast; rfl)
  obtain ⟨o3, s3, b3⟩ := h.sub3 (i := 24 + x + k) (m := v) (by omega) (24 + (x : Int) + (k : Int)) (len : Int) (by push_cast; rfl) (by rw [hl]; push_cast; rfl)
  have hold := bu_old h (by omega)
  have P0 := PtS.make w (pt3 none 0 0 none 0 0 none 0 0)
  obtain ⟨V, hV⟩ : ∃ V, V = w.alloc (.cells (pt3 none 0 0 none 0 0 none 0 0) 38) := ⟨_, rfl⟩
  obtain ⟨B, hB⟩ : ∃ B, B = w.heap.size := ⟨_, rfl⟩
  rw [← hV, ← hB] at P0
  have hne : g ≠ B := by omega
  have hV1 : Bu V (some ⟨g, off, none⟩) len len b := h.on (below_gr P0.gr)
  have HE := hide (pends_any hV1 (by omega))
  rw [hx, hk] at HE
  have C1 := hide (fun (W : World) (hg : V.grownBy W (some B)) => sclone_any (by omega) (b1 W (hV1.far hg hne)))
  have C2 := hide (fun (W : World) (hg : V.grownBy W (some B)) => sclone_any (by omega) (b2 W (hV1.far hg hne)))
  have C3 := hide (fun (W : World) (hg : V.grownBy W (some B)) => sclone_any (by omega) (b3 W (hV1.far hg hne)))
  have L1 : Hid (((b.drop 24).take x).length = x) := by show _ = _; rw [List.length_take, List.length_drop]; omega
  have L2 : Hid (((b.drop (24 + x)).take k).length = k) := by show _ = _; rw [List.length_take, List.length_drop]; omega
  have L3 : Hid (((b.drop (24 + x + k)).take v).length = v) := by show _ = _; rw [List.length_take, List.length_drop]; omega
  generalize (b.drop 24).take x = p1 at *
  generalize (b.drop (24 + x)).take k = p2 at *
  generalize (b.drop (24 + x + k)).take v = p3 at *
  replace P0 := hide P0
  have G0 := hide (gr_refl V (some B))
  have N1 : Hid (w = w) := rfl
  clear h hV1 hx hk hl hm hn b1 b2 b3 hold hne
  simp only [pt3] at hV
  go_enter Try.func24, Try.ntmps24
  go_upto_region 1 with fail
  rw [← hV, ← hB]
  clear hV hB
  go_wp2_with (first
    | (go_at_call 30; refine HE.out.mono ?_; rintro e w2 ⟨rfl, hw2⟩; rw [hw2]; clear hw2)
    | (have t := N1; clear t; go_at_call 31; go_loud (refine (C1.out _ G0.out).mono ?_; rintro e w1 ⟨a1, c1, rfl, v1, g1⟩; obtain ⟨W1, e1, d1, f1, P1, G1, q1⟩ := pt_step P0.out G0.out g1 (j := 0) (old := .slice none 0 0) rfl (.slice a1 x c1); have z1 := hide (P0.out.lt); replace P1 := hide P1; replace G1 := hide G1; replace q1 := hide q1; replace v1 := hide v1; clear N1 g1 C1; have N2 : Hid (w1 = w1) := rfl))
    | (have t := N2; clear t; go_at_call 31; go_loud (refine (C2.out _ G1.out).mono ?_; rintro e w2 ⟨a2, c2, rfl, v2, g2⟩; obtain ⟨W2, e2, d2, f2, P2, G2, q2⟩ := pt_step P1.out G1.out g2 (j := 1) (old := .slice none 0 0) rfl (.slice a2 k c2); have z2 := hide (P1.out.lt); have r1 := hide (gr_self (gr_trans q1.out (gr_row g2)) q2); replace P2 := hide P2; replace G2 := hide G2; replace q2 := hide q2; replace v2 := hide v2; clear N2 g2 C2 e1 d1 f1; have N3 : Hid (w2 = w2) := rfl))
    | (have t := N3; clear t; go_at_call 31; go_loud (refine (C3.out _ G2.out).mono ?_; rintro e w3 ⟨a3, c3, rfl, v3, g3⟩; obtain ⟨W3, e3, d3, f3, P3, G3, q3⟩ := pt_step P2.out G2.out g3 (j := 2) (old := .slice none 0 0) rfl (.slice a3 v c3); have z3 := hide (P2.out.lt); replace r1 := hide (gr_self (gr_trans r1.out (gr_row g3)) q3); have r2 := hide (gr_self (gr_trans q2.out (gr_row g3)) q3); have r3 := hide q3; replace P3 := hide (show PtS w W3 B (pt3 a1 x c1 a2 k c2 a3 v c3) from P3); clear N3 g3 C3 e2 d2 f2 G3 q3; have N4 : Hid (w3 = w3) := rfl))
    | (have t := N4; clear t; refine wpList_load_row rfl 38 _ rfl B rfl _ _ _ _ P3.out.row Try.underlying38 rfl (pt3_size _ _ _ _ _ _ _ _ _) ?_; clear N4)
    | (refine wpList_store_row rfl 38 _ _ rfl B (pt3 a1 x c1 a2 k c2 a3 v c3) rfl rfl _ _ P3.out.row (pt3_size _ _ _ _ _ _ _ _ _) rfl (pt3_one _ _ _ _ _ _ _ _ _) ?_; obtain ⟨W4, e4, P4, q4⟩ : ∃ W4, W3.setRow B (pt3 a1 x c1 a2 k c2 a3 v c3) = W4 ∧ PtS w W4 B (pt3 a1 x c1 a2 k c2 a3 v c3) ∧ W3.grownBy W4 (some B) := ⟨_, rfl, (P3.out.again _).1, (P3.out.again _).2⟩; rw [e4]; clear e4; replace P4 := hide P4; replace q4 := hide q4))
  refine bodyPost_ret (results_cell_row rfl _ _ B 38 (pt3 a1 x c1 a2 k c2 a3 v c3) (0, 0) _ rfl P4.out.row Try.underlying38 rfl (pt3_size _ _ _ _ _ _ _ _ _)) rfl ?_
  have zB : w.heap.size ≤ B := P4.out.new
  refine ⟨a1, c1, a2, c2, a3, c3, rfl, fun W' hW => ⟨?_, ?_, ?_⟩, P4.out.gr⟩
  · have := val_hi v1.out ((Hi.of (gr_self r1.out q4.out) z1.out).trans (hW.up (by have := z1.out; omega)))
    rwa [L1.out] at this
  · have := val_hi v2.out ((Hi.of (gr_self r2.out q4.out) z2.out).trans (hW.up (by have := z2.out; omega)))
    rwa [L2.out] at this
  · have := val_hi v3 ((Hi.of (gr_self r3.out q4.out) z3.out).trans (hW.up (by have := z3.out; omega)))
    rwa [L3.out] at this
end
end Go.Proofs.Ytaafkefgpgoepaa

namespace Go.Proofs.Ytaafkefgpgoepaa
set_option linter.unusedVariables false
set_option linter.unusedSimpArgs false
open Go.RowKit Go.Shelf

theorem u16_idP {z : Int} (h0 : 0 ≤ z) (h1 : z ≤ 65535) : IntKind.u16.wrap z = z := by
  simp only [IntKind.wrap, IntKind.signed, IntKind.bits, Bool.false_and, Bool.false_eq_true, if_false]
  omega
theorem part_take (b : List UInt8) {i n m : Nat} (h : i + n ≤ m) : ((b.take m).drop i).take n = (b.drop i).take n := by
  rw [List.drop_take, List.take_take]
  congr 1
  omega
theorem by4_take (b : List UInt8) {m : Nat} (h : 24 ≤ m) : by4 (b.take m) = by4 b := by
  unfold by4
  rw [List.getD_eq_getElem?_getD, List.getD_eq_getElem?_getD, List.getElem?_take, if_pos (by omega)]
theorem results_six {P : Program} {fn : Func} {t1 t2 t3 t4 p t6 : Tmp} {ty : TypeId} (h : fn.results = #[.tmp t1, .tmp t2, .tmp t3, .tmp t4, .cell p ty, .tmp t6]) (tmps : Array Value) (w : World) (g : Nat) (t : TypeId) (cs : Array Value) (fr : Nat × Nat) (d : TypeDesc)
    (hp : tmps.getD p undef = .pointer (some ⟨g, 0, none⟩)) (hg : w.heap[g]? = some (.cells cs t fr))
    (hu : P.underlying ty = some d) (hd : (match d with | .struct _ | .array _ _ => true | _ => false) = true) (hi : (P.info? ty).map (·.size) = some cs.size) :
    (results fn tmps).run P w = .ok (.tuple #[tmps.getD t1 undef, tmps.getD t2 undef, tmps.getD t3 undef, tmps.getD t4 undef, .agg cs, tmps.getD t6 undef]) w := by
  have hp' : tmps[p]?.getD undef = .pointer (some ⟨g, 0, none⟩) := by simpa using hp
  simp [results, h, hp', asAddr, run_loadVar_row w g t ty cs fr d hg hu hd hi]
section
variable {w : World} {a : Option Addr} {g off len cap : Nat} {b : List UInt8}
set_option maxRecDepth 100000 in
set_option maxHeartbeats 4000000 in
theorem pread_no (HM : ∀ W, w.grownBy W none → Calls Try.prog 22 #[.slice a len cap] W fun e w' => e = .returned (.int .i64 0) ∧ w' = W) :
    Calls Try.prog 14 #[.slice a len cap] w fun e w' => RdT noA w e w' := by
  have P0 := PtS.make w (pt3 none 0 0 none 0 0 none 0 0)
  obtain ⟨V, hV⟩ : ∃ V, V = w.alloc (.cells (pt3 none 0 0 none 0 0 none 0 0) 38) := ⟨_, rfl⟩
  obtain ⟨B, hB⟩ : ∃ B, B = w.heap.size := ⟨_, rfl⟩
  rw [← hV, ← hB] at P0
  have HE := hide (HM V P0.gr)
  replace P0 := hide P0
  clear HM
  simp only [pt3] at hV
  go_enter Try.func14, Try.ntmps14
  go_upto_region 1 with fail
  rw [← hV, ← hB]
  clear hV hB
  go_wp2_with (go_at_call 22; refine HE.out.mono ?_; rintro e w2 ⟨rfl, hw2⟩; rw [hw2]; clear hw2)
  refine bodyPost_ret (results_six rfl _ _ B 38 (pt3 none 0 0 none 0 0 none 0 0) (0, 0) _ rfl P0.out.row Try.underlying38 rfl (pt3_size _ _ _ _ _ _ _ _ _)) rfl ?_
  exact ⟨none, 0, none, 0, none, 0, rfl, ⟨rfl, .inl ⟨rfl, rfl, fun _ => rfl⟩, Nat.le_refl _, Nat.zero_le _⟩, ⟨rfl, .inl ⟨rfl, rfl, fun _ => rfl⟩, Nat.le_refl _, Nat.zero_le _⟩, ⟨rfl, .inl ⟨rfl, rfl, fun _ => rfl⟩, Nat.le_refl _, Nat.zero_le _⟩, P0.out.gr⟩
set_option maxRecDepth 100000 in
set_option maxHeartbeats 4000000 in
theorem pread_yes (h : Bu w (some ⟨g, off, none⟩) len cap b) (hm : len ≤ 200000) (hr : readP b) {x k v : Nat} (hx : by4 b = (x : Int)) (hk : getB b 2 2 = (k : Int)) (hl : getB b 8 4 = ((x + k + v : Nat) : Int)) :
    Calls Try.prog 14 #[.slice (some ⟨g, off, none⟩) len cap] w fun e w' => RdT (readV b x k v) w e w' := by
  have hn := h.n
  have hc := h.c
  have hr' := hr
  obtain ⟨h24, h129, h20, hfit, hsum⟩ := hr
  rw [hn] at h24 hfit
  rw [hl] at h20 hfit hsum
  have P0 := PtS.make w (pt3 none 0 0 none 0 0 none 0 0)
  obtain ⟨V, hV⟩ : ∃ V, V = w.alloc (.cells (pt3 none 0 0 none 0 0 none 0 0) 38) := ⟨_, rfl⟩
  obtain ⟨B, hB⟩ : ∃ B, B = w.heap.size := ⟨_, rfl⟩
  rw [← hV, ← hB] at P0
  have hV1 : Bu V (some ⟨g, off, none⟩) len cap b := h.on (below_gr P0.gr)
  have HE := hide (pmeas_yes hV1 hm hr')
  obtain ⟨m, hmm⟩ : ∃ m, m = 24 + x + k + v := ⟨_, rfl⟩
  have eL : Hid (24 + ((x + k + v : Nat) : Int) = (m : Int)) := by show _ = _; rw [hmm]; push_cast; omega
  rw [hl, eL.out] at HE
  have c1 : V.cell? ⟨g, off + 1, none⟩ = some (.int .u8 (by1 b)) := first_byteD hV1 1 (by omega)
  have H6 := hide (pget_any (hV1.part3 6 2 (by omega)) (by decide) (by decide))
  have H12 := hide (pget_any (hV1.part3 12 4 (by omega)) (by decide) (by decide))
  have H16 := hide (pget_any (hV1.part3 16 8 (by omega)) (by decide) (by decide))
  rw [show numB ((b.drop 6).take 2) = getB b 6 2 from rfl] at H6
  rw [show numB ((b.drop 12).take 4) = getB b 12 4 from rfl] at H12
  rw [show numB ((b.drop 16).take 8) = getB b 16 8 from rfl] at H16
  have y0 := (numB_bd ((b.drop 6).take 2)).1
  have y1 := numB_two (l := (b.drop 6).take 2) (by rw [List.length_take, List.length_drop]; omega)
  have o0 := (numB_bd ((b.drop 12).take 4)).1
  have o1 := numB_four (l := (b.drop 12).take 4) (by rw [List.length_take, List.length_drop]; omega)
  have i1 : IntKind.u16.wrap (getB b 6 2) = getB b 6 2 := u16_idP y0 y1
  have i2 : IntKind.u32.wrap (getB b 12 4) = getB b 12 4 := u32_id o0 o1
  have i3 : IntKind.i64.wrap (by1 b) = by1 b := i64_id (Int.natCast_nonneg _) (by have := UInt8.toNat_lt (b.getD 1 0); unfold by1; omega)
  obtain ⟨sp, bp⟩ := h.pre3 (m := m) (by omega) (m : Int) rfl
  have HC := hide (pcut_any (x := x) (k := k) (v := v) (bp V hV1) (by rw [by4_take b (by omega)]; exact hx) (by unfold getB; rw [part_take b (by omega)]; exact hk) hmm (by omega))
  rw [part_take b (by omega), part_take b (by omega), part_take b (by omega)] at HC
  have lx : Hid ((readV b x k v).x.length = x) := by show ((b.drop 24).take x).length = x; rw [List.length_take, List.length_drop]; omega
  have lk : Hid ((readV b x k v).key.length = k) := by show ((b.drop (24 + x)).take k).length = k; rw [List.length_take, List.length_drop]; omega
  have lv : Hid ((readV b x k v).v.length = v) := by show ((b.drop (24 + x + k)).take v).length = v; rw [List.length_take, List.length_drop]; omega
  replace P0 := hide P0
  have zm : ((m : Int) == 0) = false := by rw [beq_eq_false_iff_ne]; omega
  have l1 : (1 : Int) < (len : Int) := by omega
  have d6 : (6 : Int) ≤ (cap : Int) := by omega
  have d8 : (8 : Int) ≤ (cap : Int) := by omega
  have d12 : (12 : Int) ≤ (cap : Int) := by omega
  have d16 : (16 : Int) ≤ (cap : Int) := by omega
  have d24 : (24 : Int) ≤ (cap : Int) := by omega
  have m6 : ¬ cap = 6 := by omega
  have m12 : ¬ cap = 12 := by omega
  have m16 : ¬ cap = 16 := by omega
  have N1 : Hid (w = w) := rfl
  clear h hV1 hm hr' hx hk hl hn hc h24 h129 h20 hfit hsum y0 y1 o0 o1 bp hmm
  simp only [pt3] at hV
  go_enter Try.func14, Try.ntmps14
  go_upto_region 1 with fail
  rw [← hV, ← hB]
  clear hV hB
  go_wp2_with (first
    | (go_at_call 22; refine HE.out.mono ?_; rintro e w2 ⟨rfl, hw2⟩; rw [hw2]; clear hw2)
    | (have t := N1; clear t; go_at_call 23; go_loud (refine H6.out.mono ?_; rintro e w2 ⟨rfl, hw2⟩; rw [hw2]; clear hw2 N1; have N2 : Hid (w = w) := rfl))
    | (have t := N2; clear t; go_at_call 23; go_loud (refine H12.out.mono ?_; rintro e w2 ⟨rfl, hw2⟩; rw [hw2]; clear hw2 N2; have N3 : Hid (w = w) := rfl))
    | (have t := N3; clear t; go_at_call 23; go_loud (refine H16.out.mono ?_; rintro e w2 ⟨rfl, hw2⟩; rw [hw2]; clear hw2 N3))
    | (go_at_call 24; go_loud (refine HC.out.mono ?_; rintro e w2 ⟨xa, xc, ka, kc, va, vc, rfl, b1, g2⟩; have P1 := P0.out.on g2; obtain ⟨W4, e4, P4, q4⟩ : ∃ W4, w2.setRow B (pt3 xa x xc ka k kc va v vc) = W4 ∧ PtS w W4 B (pt3 xa x xc ka k kc va v vc) ∧ w2.grownBy W4 (some B) := ⟨_, rfl, (P1.again _).1, (P1.again _).2⟩; replace P1 := hide P1; replace P4 := hide P4; replace b1 := hide (b1 W4 (Hi.of q4 P0.out.lt)); replace q4 := hide q4; replace g2 := hide g2; replace e4 := hide e4))
    | (refine wpList_store_row rfl 38 _ _ rfl B (pt3 xa x xc ka k kc va v vc) rfl rfl _ _ P1.out.row (pt3_size _ _ _ _ _ _ _ _ _) rfl (pt3_one _ _ _ _ _ _ _ _ _) ?_; rw [e4.out]; clear e4))
  refine bodyPost_ret (results_six rfl _ _ B 38 (pt3 xa x xc ka k kc va v vc) (0, 0) _ rfl P4.out.row Try.underlying38 rfl (pt3_size _ _ _ _ _ _ _ _ _)) rfl ?_
  refine ⟨xa, xc, ka, kc, va, vc, ?_, ?_, ?_, ?_, P4.out.gr⟩
  · unfold ptC
    rw [lx.out, lk.out, lv.out]
    show _ = Ending.returned (.tuple #[.int .i64 (by1 b), .int .u16 (getB b 6 2), .int .u32 (getB b 12 4), .int .u64 (getB b 16 8), .agg (pt3 xa x xc ka k kc va v vc), .int .i64 (24 + ((x + k + v : Nat) : Int))])
    rw [eL.out]
    rfl
  · rw [lx.out]; exact b1.out.1
  · rw [lk.out]; exact b1.out.2.1
  · rw [lv.out]; exact b1.out.2.2
/-- Package binout's Read. -/
theorem pread_any (w : World) (a : Option Addr) (len cap : Nat) (b : List UInt8) (v : Av) (h : Bu w a len cap b) (hm : len ≤ 200000) (hv : ReadsA b v) : Calls Try.prog 14 #[.slice a len cap] w fun e w' => RdT v w e w' := by
  have hn := h.n
  by_cases h24 : len < 24
  · rcases hv with ⟨_, rfl⟩ | ⟨⟨h1, _⟩, _⟩
    · exact pread_no fun W _ => pmeas_short h24
    · omega
  · obtain ⟨g, off, rfl⟩ : ∃ g off, a = some ⟨g, off, none⟩ := by
      rcases h.b with ⟨h1, _, _⟩ | ⟨g, off, r⟩
      · omega
      · exact ⟨g, off, r.at_⟩
    rcases hv with ⟨h1, rfl⟩ | ⟨h1, x, k, v, e1, e2, e3, rfl⟩
    · exact pread_no fun W hg => pmeas_no (h.on (below_gr hg)) (by omega) hm h1
    · exact pread_yes h hm h1 e1 e2 e3
end
end Go.Proofs.Ytaafkefgpgoepaa
