/- BininCodes returns true for every code, text and row of bytes, and writes nothing that was there. Conditions: none. -/
import Derived.Test.YtegaljpllcgaaaaBinCoM
import Derived.Test.YtegaljpllcgaaaaBinOfE
import Derived.Test.YtegaljpllcgaaaaBinNumM
namespace Go.Proofs.Ytegaljpllcgaaaa
set_option linter.unusedVariables false
open Go.RowKit

theorem x_next {x : Nat} (h : x ≤ 100) : wrap64 ((x : Int) + 1) = (x : Int) + 1 := by
  unfold wrap64
  omega
theorem keepC {w w' : World} {p : Addr} {v : Value} (hg : w.grownBy w' none) (h : w.cell? p = some v) : w'.cell? p = some v := ((below_gr hg).cell (World.block_lt_of_cell? w _ h)).trans h
theorem r5_at {w : World} {p : Nat} {r : R5} {t : TypeId} (h : w.heap[p]? = some (.cells (r5C r) t (0, 0))) (j : Nat) (v : Value) (hv : (r5C r)[j]? = some v) : w.cell? ⟨p, j, none⟩ = some v := by
  unfold World.cell?
  rw [h]
  exact hv
theorem r5_one (r : R5) : (r5C r).all (·.oneCell') = true := by simp [r5C, Value.oneCell']
/-- Noughts in a new block. -/
theorem zeros_bu (x : Nat) (hx : x ≤ 100) (w : World) : Bu (w.alloc (.cells (madeCells #[Value.int .u8 0] x) 5)) (some ⟨w.heap.size, 0, none⟩) x x (List.replicate x 0) := by
  have h := room_u (n := x) w (List.replicate x 0) List.length_replicate (by unfold maxLen; omega)
  have e : (byU (List.replicate x 0)).toArray = madeCells #[Value.int .u8 0] x := by
    apply Array.toList_inj.1
    rw [toList_madeCells_one]
    unfold byU byV ints
    simp only [List.map_replicate]
    rfl
  rw [e] at h
  exact h
theorem make_x (x : Nat) (hx : x ≤ 100) (w : World) : (Instr.makeSlice 22 (.int .i64 x) (.int .i64 x)).run Try.prog w = .ok (.slice (some ⟨w.heap.size, 0, none⟩) x x) (w.alloc (.cells (madeCells #[Value.int .u8 0] x) 5)) :=
  run_make_row' (P := Try.prog) 22 5 (.int .u8 0) 1 Try.underlying22 (by kernel_rfl) rfl .i64 .i64 x (by omega) (by omega) w
theorem make_y (x : Nat) (hx : x + 1 ≤ 100) (w : World) : (Instr.makeSlice 22 (.int .i64 ((x : Int) + 1)) (.int .i64 ((x : Int) + 1))).run Try.prog w = .ok (.slice (some ⟨w.heap.size, 0, none⟩) (x + 1) (x + 1)) (w.alloc (.cells (madeCells #[Value.int .u8 0] (x + 1)) 5)) := by
  have h := make_x (x + 1) hx w
  rw [Int.natCast_succ] at h
  exact h
/-- A request of its parts, whatever it is. -/
theorem packC {w : World} {c : Int} {p : UInt8} (hp : (p.toNat : Int) = c) {x : Nat} {key : ByteArray} {va : Option Addr} {vn vc : Nat} {v : List UInt8} {S : Sv} (x1 : x ≤ 100) (k1 : key.size ≤ 1000) (v1 : vn ≤ 1000) (hs : parse16 (packL p (List.replicate x 0) key.data.toList v 0 7) = S) (hv : Bu w va vn vc v) {g : Nat} (hx : Bu w (some ⟨g, 0, none⟩) x x (List.replicate x 0)) :
    Calls Try.prog 15 #[.int .i64 c, .slice (some ⟨g, 0, none⟩) x x, .string key, .slice va vn vc, .int .u64 0, .int .u32 7] w fun e w' => ∃ a n cap, e = .returned (.slice a n cap) ∧ n ≤ 100000 ∧ ∃ b, Bu w' a n cap b ∧ parse16 b = S ∧ w.grownBy w' none := by
  refine (packet_any (cas := 0) (opq := 7) hp hx hv (by omega) (by omega) (by omega) (by decide) (by decide)).mono fun e w' ⟨a, n, cap, e1, e2, e3, e4⟩ => ?_
  exact ⟨a, n, cap, e1, by omega, _, e3, hs, e4⟩
theorem co_one {W : World} {q : Qv} {ca ta ka : Option Addr} {cc tc kc : Nat} {cm : Cv} (h : q.cmds = [cm]) (hq : QAt W q ca cc ta tc ka kc) : ∃ b o, ca = some ⟨b, o, none⟩ ∧ W.cell? ⟨b, o, none⟩ = some (.int .i64 cm.op) ∧ q.cmds.length = 1 := by
  have hc := hq.cmds
  rw [h] at hc
  obtain ⟨b, o, e, va, vc, h1, _⟩ := cu_one hc
  have h2 := h1 0 (.int .i64 cm.op) rfl
  exact ⟨b, o, e, h2, by rw [h]; rfl⟩
theorem bad_row {c : Int} (h0 : 0 ≤ c) (h1 : c ≤ 255) (h : (ofN c).op < 0) : (ofN c).key = true ∧ (ofN c).val = false := by
  have hb := loudN_bd h0 h1
  unfold ofN at *
  generalize (loudN c).2 = q at *
  generalize (loudN c).1 = d at *
  have hd : d = 0 ∨ d = 1 ∨ d = 2 ∨ d = 3 ∨ d = 4 ∨ d = 5 ∨ d = 6 ∨ d = 7 ∨ d = 8 ∨ d = 9 ∨ d = 10 ∨ d = 11 ∨ d = 12 ∨ d = 13 ∨ d = 14 ∨ d = 15 ∨ d = 28 ∨ d = 29 ∨ (16 ≤ d ∧ d ≠ 28 ∧ d ≠ 29) := by omega
  rcases hd with rfl | rfl | rfl | rfl | rfl | rfl | rfl | rfl | rfl | rfl | rfl | rfl | rfl | rfl | rfl | rfl | rfl | rfl | ⟨g0, g1, g2⟩
  all_goals first
    | exact ⟨rfl, rfl⟩
    | (exfalso; revert h; decide +revert)
    | (rw [rowB_other g0 g1 g2]; exact ⟨rfl, rfl⟩)
section
variable {W : World} {a : Option Addr} {len cap : Nat} {v : List UInt8}
set_option maxRecDepth 100000 in
set_option maxHeartbeats 8000000 in
theorem codes_bad {c : Int} {p : UInt8} (hp : (p.toNat : Int) = c) {key : ByteArray} {r : R5} {x : Nat} {S T : Sv} {R R2 : ByteArray} (hr : r = ofN c) (rx : r.ext = (x : Int)) (rk : r.key = true) (rv : r.val = false) (x1 : x ≤ 20) (k0 : 1 ≤ key.size) (k1 : key.size ≤ 250) (v1 : len ≤ 1000) (hv : Bu W a len cap v)
    (hs : parse16 (packL p (List.replicate x 0) key.data.toList ([] : List UInt8) 0 7) = S) (ht : parse16 (packL p (List.replicate (x + 1) 0) key.data.toList ([] : List UInt8) 0 7) = T) (hop : r.op < 0) (se : S.e = 2) (sr : S.reply = R) (hR : R.size = 24) (r7 : ((R[7]'(by omega)).toNat : Int) = 129) (te : T.e = 2) (tr : T.reply = R2) (hR2 : R2.size = 24) :
    Calls Try.prog 8 #[.int .i64 c, .string key, .slice a len cap] W fun e W' => e = .returned (.bool true) ∧ Below W.heap.size W W' := by
  have hpb := UInt8.toNat_lt p
  have HO : Hid (∀ w : World, Calls Try.prog 16 #[.int .i64 c] w fun e w' => OfE r w e w') := fun w => by rw [hr]; exact of_any (by omega) (by omega)
  have i1 : ¬ c < 0 := by omega
  have i2 : ¬ 255 < c := by omega
  have i3 : ¬ (key.size : Int) < 1 := by omega
  have i4 : ¬ (250 : Int) < (key.size : Int) := by omega
  have i5 : ¬ (1000 : Int) < (len : Int) := by omega
  have xa : x ≤ 100 := by omega
  have xb : x + 1 ≤ 100 := by omega
  have ka : key.size ≤ 1000 := by omega
  have mk1 := fun w => make_x x xa w
  have mk2 := fun w => make_y x xb w
  have ZX := hide (fun w => zeros_bu x xa w)
  have ZX2 := hide (fun w => zeros_bu (x + 1) xb w)
  have HA := hide (fun (w : World) {g : Nat} (h2 : Bu w none 0 0 ([] : List UInt8)) (h1 : Bu w (some ⟨g, 0, none⟩) x x (List.replicate x 0)) => packC (key := key) hp xa (ka) (by decide) hs h2 h1)
  have HA2 := hide (fun (w : World) {g : Nat} (h2 : Bu w none 0 0 ([] : List UInt8)) (h1 : Bu w (some ⟨g, 0, none⟩) (x + 1) (x + 1) (List.replicate (x + 1) 0)) => packC (key := key) hp xb (ka) (by decide) ht h2 h1)
  have ex := x_next xa
  have HB := hide (fun (w : World) (h : Below W.heap.size W w) => bu_nil w)
  have RX := hide rx
  have RK := hide rk
  have RV := hide rv
  have SE := hide se
  have TE := hide te
  have TR := hide tr
  have SR := hide sr
  clear hp hpb hr rx rk rv x1 k0 k1 v1 xa xb ka hv hs ht se te tr sr
  go_enter Try.func8, Try.ntmps8
  go_wp2_with (first
    | (go_at_call 9; refine awake_any.mono ?_; rintro e w1 ⟨rfl, g1⟩; replace g1 := hide g1; have N0 : Hid (W = W) := rfl)
    | (have t := N0; clear t; go_at_call 16; refine (HO.out _).mono ?_; rintro e w2 ⟨rfl, g2⟩; obtain ⟨W2, hW2⟩ : ∃ W2, W2 = w2.alloc (.cells (r5C r) 47) := ⟨_, rfl⟩; obtain ⟨P0, hP0⟩ : ∃ P0, P0 = w2.heap.size := ⟨_, rfl⟩; have X0 : W2.heap[P0]? = some (.cells (r5C r) 47 (0, 0)) := (by rw [hW2, hP0]; exact World.alloc_heap_new _ _); have G2 := hide (gr_trans g1.out (gr_trans g2 (by rw [hW2]; exact World.grownBy_alloc _ _ _ : w2.grownBy W2 none))); have xo := r5_at X0 0 (.int .i64 r.op) rfl; have xe := r5_at X0 1 (.int .i64 r.ext) rfl; have xk := r5_at X0 2 (.bool r.key) rfl; have xv := r5_at X0 3 (.bool r.val) rfl; rw [RX.out] at xe; rw [RK.out] at xk; rw [RV.out] at xv; replace X0 := hide X0; clear N0 g2 HO; have N1 : Hid (W = W) := rfl)
    | (have t := N1; clear t; refine wpList_store_row rfl 47 _ _ rfl w2.heap.size (r5C r) rfl rfl _ _ (World.alloc_heap_new w2 _) (r5_size _) rfl (r5_one _) ?_; rw [setRow_alloc, ← hW2, ← hP0]; clear N1 hW2 hP0; have N2 : Hid (W = W) := rfl)
    | (have t := N2; clear t; go_at_call 15; refine (HA.out _ (HB.out _ (below_gr (gr_trans G2.out (World.grownBy_alloc W2 _ none)))) (ZX.out W2)).mono ?_; rintro e w3 ⟨a3, n3, c3, rfl, l3, b3, B3, p3, q3⟩; have l3 := hide l3; have B3 := hide B3; have p3 := hide p3; have q3 := hide (gr_trans (World.grownBy_alloc W2 _ none) q3); clear N2 HA ZX; have N3 : Hid (W = W) := rfl)
    | (have t := N3; clear t; go_at_call 11; refine (pcall q3.out B3.out l3.out p3.out).mono ?_; rintro e w4 ⟨c1, cc1, t1, tc1, k1, kc1, rfl, q1, g4⟩; obtain ⟨W4, hW4⟩ : ∃ W4, W4 = w4.alloc (.cells (stC S c1 cc1 t1 tc1 k1 kc1) 34) := ⟨_, rfl⟩; obtain ⟨P1, hP1⟩ : ∃ P1, P1 = w4.heap.size := ⟨_, rfl⟩; have g24 : W2.grownBy W4 none := gr_trans g4 (by rw [hW4]; exact World.grownBy_alloc _ _ _); have xe4 := keepC g24 xe; have G4 := hide (gr_trans G2.out g24); clear g24; replace q1 := hide q1; replace g4 := hide g4; clear B3 l3 p3 q3 N3; have N4 : Hid (W = W) := rfl)
    | (have t := N4; clear t; refine wpList_store_row rfl 34 _ _ rfl w4.heap.size (stC S c1 cc1 t1 tc1 k1 kc1) rfl rfl _ _ (World.alloc_heap_new w4 _) (step_size _ _ _ _ _ _ _) rfl (step_one _ _ _ _ _ _ _) ?_; rw [setRow_alloc, ← hW4, ← hP1]; clear N4; replace hW4 := hide hW4; replace hP1 := hide hP1; have N5 : Hid (W = W) := rfl)
    | (have t := N5; clear t; go_at_call 15; refine (HA2.out _ (HB.out _ (below_gr (gr_trans G4.out (World.grownBy_alloc W4 _ none)))) (ZX2.out W4)).mono ?_; rintro e w5 ⟨a5, n5, c5, rfl, l5, b5, B5, p5, q5⟩; have l5 := hide l5; have B5 := hide B5; have p5 := hide p5; have q5 := hide (gr_trans (World.grownBy_alloc W4 _ none) q5); clear N5 HA2 ZX2 xe4; have N6 : Hid (W = W) := rfl)
    | (have t := N6; clear t; go_at_call 11; refine (pcall q5.out B5.out l5.out p5.out).mono ?_; rintro e w6 ⟨c2, cc2, t2, tc2, k2, kc2, rfl, q2, g6⟩; obtain ⟨W6, hW6⟩ : ∃ W6, W6 = w6.alloc (.cells (stC T c2 cc2 t2 tc2 k2 kc2) 34) := ⟨_, rfl⟩; obtain ⟨P2, hP2⟩ : ∃ P2, P2 = w6.heap.size := ⟨_, rfl⟩; replace q2 := hide q2; replace g6 := hide g6; clear B5 l5 p5 q5 N6; have N7 : Hid (W = W) := rfl)
    | (have t := N7; clear t; refine wpList_store_row rfl 34 _ _ rfl w6.heap.size (stC T c2 cc2 t2 tc2 k2 kc2) rfl rfl _ _ (World.alloc_heap_new w6 _) (step_size _ _ _ _ _ _ _) rfl (step_one _ _ _ _ _ _ _) ?_; rw [setRow_alloc, ← hW6, ← hP2]; clear N7; have T2 := twoB_of q1.out g4.out hW4.out hP1.out q2.out g6.out hW6 hP2; clear hW6 hP2 hW4 hP1 q1 q2 g4 g6; have y1 := (st_cells T2.b1).1; have y4 := (st_cells T2.b1).2.2.2.2; have z1 := (st_cells T2.b2).1; have z4 := (st_cells T2.b2).2.2.2.2; rw [SE.out] at y4; rw [TE.out] at z4; rw [TR.out] at z1; have X6 := (T2.gr.block P0 (Array.getElem?_eq_some_iff.1 X0.out).1 (by simp)).trans X0.out; have xo6 := r5_at X6 0 (.int .i64 r.op) rfl; have GE := hide (Bt (below_gr G2.out) (below_gr T2.gr)); clear xo xe xk xv X0; rw [SR.out] at y1; replace T2 := hide T2))
  go_ret
  exact ⟨by first | rfl | (simp; done), GE.out⟩
set_option maxRecDepth 100000 in
set_option maxHeartbeats 8000000 in
theorem codes_kv {c : Int} {p : UInt8} (hp : (p.toNat : Int) = c) {key : ByteArray} {r : R5} {x : Nat} {S T : Sv} {R R2 : ByteArray} (hr : r = ofN c) (rx : r.ext = (x : Int)) (rk : r.key = true) (rv : r.val = true) (x1 : x ≤ 20) (k0 : 1 ≤ key.size) (k1 : key.size ≤ 250) (v1 : len ≤ 1000) (hv : Bu W a len cap v)
    (hs : parse16 (packL p (List.replicate x 0) key.data.toList v 0 7) = S) (ht : parse16 (packL p (List.replicate (x + 1) 0) key.data.toList v 0 7) = T) (hop : ¬ r.op < 0) (se : S.e = 0) (sq : S.req.form.quiet = r.quiet) {cm : Cv} (sc : S.req.cmds = [cm]) (so : cm.op = r.op) (te : T.e = 2) (tr : T.reply = R2) (hR2 : R2.size = 24) (r7 : ((R2[7]'(by omega)).toNat : Int) = 4) :
    Calls Try.prog 8 #[.int .i64 c, .string key, .slice a len cap] W fun e W' => e = .returned (.bool true) ∧ Below W.heap.size W W' := by
  have hpb := UInt8.toNat_lt p
  have HO : Hid (∀ w : World, Calls Try.prog 16 #[.int .i64 c] w fun e w' => OfE r w e w') := fun w => by rw [hr]; exact of_any (by omega) (by omega)
  have i1 : ¬ c < 0 := by omega
  have i2 : ¬ 255 < c := by omega
  have i3 : ¬ (key.size : Int) < 1 := by omega
  have i4 : ¬ (250 : Int) < (key.size : Int) := by omega
  have i5 : ¬ (1000 : Int) < (len : Int) := by omega
  have xa : x ≤ 100 := by omega
  have xb : x + 1 ≤ 100 := by omega
  have ka : key.size ≤ 1000 := by omega
  have mk1 := fun w => make_x x xa w
  have mk2 := fun w => make_y x xb w
  have ZX := hide (fun w => zeros_bu x xa w)
  have ZX2 := hide (fun w => zeros_bu (x + 1) xb w)
  have HA := hide (fun (w : World) {g : Nat} (h2 : Bu w a len cap v) (h1 : Bu w (some ⟨g, 0, none⟩) x x (List.replicate x 0)) => packC (key := key) hp xa (ka) (v1) hs h2 h1)
  have HA2 := hide (fun (w : World) {g : Nat} (h2 : Bu w a len cap v) (h1 : Bu w (some ⟨g, 0, none⟩) (x + 1) (x + 1) (List.replicate (x + 1) 0)) => packC (key := key) hp xb (ka) (v1) ht h2 h1)
  have ex := x_next xa
  have HB := hide (fun (w : World) (h : Below W.heap.size W w) => hv.on h)
  have RX := hide rx
  have RK := hide rk
  have RV := hide rv
  have SE := hide se
  have TE := hide te
  have TR := hide tr
  have SQ := hide sq
  have SC := hide sc
  have SO := hide so
  clear hp hpb hr rx rk rv x1 k0 k1 v1 xa xb ka hv hs ht se te tr sq sc so
  go_enter Try.func8, Try.ntmps8
  go_wp2_with (first
    | (go_at_call 9; refine awake_any.mono ?_; rintro e w1 ⟨rfl, g1⟩; replace g1 := hide g1; have N0 : Hid (W = W) := rfl)
    | (have t := N0; clear t; go_at_call 16; refine (HO.out _).mono ?_; rintro e w2 ⟨rfl, g2⟩; obtain ⟨W2, hW2⟩ : ∃ W2, W2 = w2.alloc (.cells (r5C r) 47) := ⟨_, rfl⟩; obtain ⟨P0, hP0⟩ : ∃ P0, P0 = w2.heap.size := ⟨_, rfl⟩; have X0 : W2.heap[P0]? = some (.cells (r5C r) 47 (0, 0)) := (by rw [hW2, hP0]; exact World.alloc_heap_new _ _); have G2 := hide (gr_trans g1.out (gr_trans g2 (by rw [hW2]; exact World.grownBy_alloc _ _ _ : w2.grownBy W2 none))); have xo := r5_at X0 0 (.int .i64 r.op) rfl; have xe := r5_at X0 1 (.int .i64 r.ext) rfl; have xk := r5_at X0 2 (.bool r.key) rfl; have xv := r5_at X0 3 (.bool r.val) rfl; rw [RX.out] at xe; rw [RK.out] at xk; rw [RV.out] at xv; replace X0 := hide X0; clear N0 g2 HO; have N1 : Hid (W = W) := rfl)
    | (have t := N1; clear t; refine wpList_store_row rfl 47 _ _ rfl w2.heap.size (r5C r) rfl rfl _ _ (World.alloc_heap_new w2 _) (r5_size _) rfl (r5_one _) ?_; rw [setRow_alloc, ← hW2, ← hP0]; clear N1 hW2 hP0; have N2 : Hid (W = W) := rfl)
    | (have t := N2; clear t; go_at_call 15; refine (HA.out _ (HB.out _ (below_gr (gr_trans G2.out (World.grownBy_alloc W2 _ none)))) (ZX.out W2)).mono ?_; rintro e w3 ⟨a3, n3, c3, rfl, l3, b3, B3, p3, q3⟩; have l3 := hide l3; have B3 := hide B3; have p3 := hide p3; have q3 := hide (gr_trans (World.grownBy_alloc W2 _ none) q3); clear N2 HA ZX; have N3 : Hid (W = W) := rfl)
    | (have t := N3; clear t; go_at_call 11; refine (pcall q3.out B3.out l3.out p3.out).mono ?_; rintro e w4 ⟨c1, cc1, t1, tc1, k1, kc1, rfl, q1, g4⟩; obtain ⟨W4, hW4⟩ : ∃ W4, W4 = w4.alloc (.cells (stC S c1 cc1 t1 tc1 k1 kc1) 34) := ⟨_, rfl⟩; obtain ⟨P1, hP1⟩ : ∃ P1, P1 = w4.heap.size := ⟨_, rfl⟩; have g24 : W2.grownBy W4 none := gr_trans g4 (by rw [hW4]; exact World.grownBy_alloc _ _ _); have xe4 := keepC g24 xe; have G4 := hide (gr_trans G2.out g24); clear g24; replace q1 := hide q1; replace g4 := hide g4; clear B3 l3 p3 q3 N3; have N4 : Hid (W = W) := rfl)
    | (have t := N4; clear t; refine wpList_store_row rfl 34 _ _ rfl w4.heap.size (stC S c1 cc1 t1 tc1 k1 kc1) rfl rfl _ _ (World.alloc_heap_new w4 _) (step_size _ _ _ _ _ _ _) rfl (step_one _ _ _ _ _ _ _) ?_; rw [setRow_alloc, ← hW4, ← hP1]; clear N4; replace hW4 := hide hW4; replace hP1 := hide hP1; have N5 : Hid (W = W) := rfl)
    | (have t := N5; clear t; go_at_call 15; refine (HA2.out _ (HB.out _ (below_gr (gr_trans G4.out (World.grownBy_alloc W4 _ none)))) (ZX2.out W4)).mono ?_; rintro e w5 ⟨a5, n5, c5, rfl, l5, b5, B5, p5, q5⟩; have l5 := hide l5; have B5 := hide B5; have p5 := hide p5; have q5 := hide (gr_trans (World.grownBy_alloc W4 _ none) q5); clear N5 HA2 ZX2 xe4; have N6 : Hid (W = W) := rfl)
    | (have t := N6; clear t; go_at_call 11; refine (pcall q5.out B5.out l5.out p5.out).mono ?_; rintro e w6 ⟨c2, cc2, t2, tc2, k2, kc2, rfl, q2, g6⟩; obtain ⟨W6, hW6⟩ : ∃ W6, W6 = w6.alloc (.cells (stC T c2 cc2 t2 tc2 k2 kc2) 34) := ⟨_, rfl⟩; obtain ⟨P2, hP2⟩ : ∃ P2, P2 = w6.heap.size := ⟨_, rfl⟩; replace q2 := hide q2; replace g6 := hide g6; clear B5 l5 p5 q5 N6; have N7 : Hid (W = W) := rfl)
    | (have t := N7; clear t; refine wpList_store_row rfl 34 _ _ rfl w6.heap.size (stC T c2 cc2 t2 tc2 k2 kc2) rfl rfl _ _ (World.alloc_heap_new w6 _) (step_size _ _ _ _ _ _ _) rfl (step_one _ _ _ _ _ _ _) ?_; rw [setRow_alloc, ← hW6, ← hP2]; clear N7; have T2 := twoB_of q1.out g4.out hW4.out hP1.out q2.out g6.out hW6 hP2; clear hW6 hP2 hW4 hP1 q1 q2 g4 g6; have y1 := (st_cells T2.b1).1; have y4 := (st_cells T2.b1).2.2.2.2; have z1 := (st_cells T2.b2).1; have z4 := (st_cells T2.b2).2.2.2.2; rw [SE.out] at y4; rw [TE.out] at z4; rw [TR.out] at z1; have X6 := (T2.gr.block P0 (Array.getElem?_eq_some_iff.1 X0.out).1 (by simp)).trans X0.out; have xo6 := r5_at X6 0 (.int .i64 r.op) rfl; have GE := hide (Bt (below_gr G2.out) (below_gr T2.gr)); clear xo xe xk xv X0; have xq6 := r5_at X6 4 (.bool r.quiet) rfl; have y0 := st_at T2.b1 0 (.slice c1 S.req.cmds.length cc1) rfl; have y5 := st_at T2.b1 5 (.bool S.req.form.quiet) rfl; rw [SQ.out] at y5; obtain ⟨V0, v1_, v2_, qa, qb⟩ := T2.q; obtain ⟨cb, co, rfl, yc, yl⟩ := co_one SC.out (qa.on v2_); rw [yl] at y0; rw [SO.out] at yc; clear qa qb v1_ v2_ yl V0; replace T2 := hide T2))
  go_quiet (fail)
  go_wp2
  go_ret
  exact ⟨by first | rfl | (simp; done), Bt GE.out (below_gr ⟨rfl, rfl, rfl, Nat.le_refl _, fun _ _ _ => rfl⟩)⟩
set_option maxRecDepth 100000 in
set_option maxHeartbeats 8000000 in
theorem codes_k {c : Int} {p : UInt8} (hp : (p.toNat : Int) = c) {key : ByteArray} {r : R5} {x : Nat} {S T : Sv} {R R2 : ByteArray} (hr : r = ofN c) (rx : r.ext = (x : Int)) (rk : r.key = true) (rv : r.val = false) (x1 : x ≤ 20) (k0 : 1 ≤ key.size) (k1 : key.size ≤ 250) (v1 : len ≤ 1000) (hv : Bu W a len cap v)
    (hs : parse16 (packL p (List.replicate x 0) key.data.toList ([] : List UInt8) 0 7) = S) (ht : parse16 (packL p (List.replicate (x + 1) 0) key.data.toList ([] : List UInt8) 0 7) = T) (hop : ¬ r.op < 0) (se : S.e = 0) (sq : S.req.form.quiet = r.quiet) {cm : Cv} (sc : S.req.cmds = [cm]) (so : cm.op = r.op) (te : T.e = 2) (tr : T.reply = R2) (hR2 : R2.size = 24) (r7 : ((R2[7]'(by omega)).toNat : Int) = 4) :
    Calls Try.prog 8 #[.int .i64 c, .string key, .slice a len cap] W fun e W' => e = .returned (.bool true) ∧ Below W.heap.size W W' := by
  have hpb := UInt8.toNat_lt p
  have HO : Hid (∀ w : World, Calls Try.prog 16 #[.int .i64 c] w fun e w' => OfE r w e w') := fun w => by rw [hr]; exact of_any (by omega) (by omega)
  have i1 : ¬ c < 0 := by omega
  have i2 : ¬ 255 < c := by omega
  have i3 : ¬ (key.size : Int) < 1 := by omega
  have i4 : ¬ (250 : Int) < (key.size : Int) := by omega
  have i5 : ¬ (1000 : Int) < (len : Int) := by omega
  have xa : x ≤ 100 := by omega
  have xb : x + 1 ≤ 100 := by omega
  have ka : key.size ≤ 1000 := by omega
  have mk1 := fun w => make_x x xa w
  have mk2 := fun w => make_y x xb w
  have ZX := hide (fun w => zeros_bu x xa w)
  have ZX2 := hide (fun w => zeros_bu (x + 1) xb w)
  have HA := hide (fun (w : World) {g : Nat} (h2 : Bu w none 0 0 ([] : List UInt8)) (h1 : Bu w (some ⟨g, 0, none⟩) x x (List.replicate x 0)) => packC (key := key) hp xa (ka) (by decide) hs h2 h1)
  have HA2 := hide (fun (w : World) {g : Nat} (h2 : Bu w none 0 0 ([] : List UInt8)) (h1 : Bu w (some ⟨g, 0, none⟩) (x + 1) (x + 1) (List.replicate (x + 1) 0)) => packC (key := key) hp xb (ka) (by decide) ht h2 h1)
  have ex := x_next xa
  have HB := hide (fun (w : World) (h : Below W.heap.size W w) => bu_nil w)
  have RX := hide rx
  have RK := hide rk
  have RV := hide rv
  have SE := hide se
  have TE := hide te
  have TR := hide tr
  have SQ := hide sq
  have SC := hide sc
  have SO := hide so
  clear hp hpb hr rx rk rv x1 k0 k1 v1 xa xb ka hv hs ht se te tr sq sc so
  go_enter Try.func8, Try.ntmps8
  go_wp2_with (first
    | (go_at_call 9; refine awake_any.mono ?_; rintro e w1 ⟨rfl, g1⟩; replace g1 := hide g1; have N0 : Hid (W = W) := rfl)
    | (have t := N0; clear t; go_at_call 16; refine (HO.out _).mono ?_; rintro e w2 ⟨rfl, g2⟩; obtain ⟨W2, hW2⟩ : ∃ W2, W2 = w2.alloc (.cells (r5C r) 47) := ⟨_, rfl⟩; obtain ⟨P0, hP0⟩ : ∃ P0, P0 = w2.heap.size := ⟨_, rfl⟩; have X0 : W2.heap[P0]? = some (.cells (r5C r) 47 (0, 0)) := (by rw [hW2, hP0]; exact World.alloc_heap_new _ _); have G2 := hide (gr_trans g1.out (gr_trans g2 (by rw [hW2]; exact World.grownBy_alloc _ _ _ : w2.grownBy W2 none))); have xo := r5_at X0 0 (.int .i64 r.op) rfl; have xe := r5_at X0 1 (.int .i64 r.ext) rfl; have xk := r5_at X0 2 (.bool r.key) rfl; have xv := r5_at X0 3 (.bool r.val) rfl; rw [RX.out] at xe; rw [RK.out] at xk; rw [RV.out] at xv; replace X0 := hide X0; clear N0 g2 HO; have N1 : Hid (W = W) := rfl)
    | (have t := N1; clear t; refine wpList_store_row rfl 47 _ _ rfl w2.heap.size (r5C r) rfl rfl _ _ (World.alloc_heap_new w2 _) (r5_size _) rfl (r5_one _) ?_; rw [setRow_alloc, ← hW2, ← hP0]; clear N1 hW2 hP0; have N2 : Hid (W = W) := rfl)
    | (have t := N2; clear t; go_at_call 15; refine (HA.out _ (HB.out _ (below_gr (gr_trans G2.out (World.grownBy_alloc W2 _ none)))) (ZX.out W2)).mono ?_; rintro e w3 ⟨a3, n3, c3, rfl, l3, b3, B3, p3, q3⟩; have l3 := hide l3; have B3 := hide B3; have p3 := hide p3; have q3 := hide (gr_trans (World.grownBy_alloc W2 _ none) q3); clear N2 HA ZX; have N3 : Hid (W = W) := rfl)
    | (have t := N3; clear t; go_at_call 11; refine (pcall q3.out B3.out l3.out p3.out).mono ?_; rintro e w4 ⟨c1, cc1, t1, tc1, k1, kc1, rfl, q1, g4⟩; obtain ⟨W4, hW4⟩ : ∃ W4, W4 = w4.alloc (.cells (stC S c1 cc1 t1 tc1 k1 kc1) 34) := ⟨_, rfl⟩; obtain ⟨P1, hP1⟩ : ∃ P1, P1 = w4.heap.size := ⟨_, rfl⟩; have g24 : W2.grownBy W4 none := gr_trans g4 (by rw [hW4]; exact World.grownBy_alloc _ _ _); have xe4 := keepC g24 xe; have G4 := hide (gr_trans G2.out g24); clear g24; replace q1 := hide q1; replace g4 := hide g4; clear B3 l3 p3 q3 N3; have N4 : Hid (W = W) := rfl)
    | (have t := N4; clear t; refine wpList_store_row rfl 34 _ _ rfl w4.heap.size (stC S c1 cc1 t1 tc1 k1 kc1) rfl rfl _ _ (World.alloc_heap_new w4 _) (step_size _ _ _ _ _ _ _) rfl (step_one _ _ _ _ _ _ _) ?_; rw [setRow_alloc, ← hW4, ← hP1]; clear N4; replace hW4 := hide hW4; replace hP1 := hide hP1; have N5 : Hid (W = W) := rfl)
    | (have t := N5; clear t; go_at_call 15; refine (HA2.out _ (HB.out _ (below_gr (gr_trans G4.out (World.grownBy_alloc W4 _ none)))) (ZX2.out W4)).mono ?_; rintro e w5 ⟨a5, n5, c5, rfl, l5, b5, B5, p5, q5⟩; have l5 := hide l5; have B5 := hide B5; have p5 := hide p5; have q5 := hide (gr_trans (World.grownBy_alloc W4 _ none) q5); clear N5 HA2 ZX2 xe4; have N6 : Hid (W = W) := rfl)
    | (have t := N6; clear t; go_at_call 11; refine (pcall q5.out B5.out l5.out p5.out).mono ?_; rintro e w6 ⟨c2, cc2, t2, tc2, k2, kc2, rfl, q2, g6⟩; obtain ⟨W6, hW6⟩ : ∃ W6, W6 = w6.alloc (.cells (stC T c2 cc2 t2 tc2 k2 kc2) 34) := ⟨_, rfl⟩; obtain ⟨P2, hP2⟩ : ∃ P2, P2 = w6.heap.size := ⟨_, rfl⟩; replace q2 := hide q2; replace g6 := hide g6; clear B5 l5 p5 q5 N6; have N7 : Hid (W = W) := rfl)
    | (have t := N7; clear t; refine wpList_store_row rfl 34 _ _ rfl w6.heap.size (stC T c2 cc2 t2 tc2 k2 kc2) rfl rfl _ _ (World.alloc_heap_new w6 _) (step_size _ _ _ _ _ _ _) rfl (step_one _ _ _ _ _ _ _) ?_; rw [setRow_alloc, ← hW6, ← hP2]; clear N7; have T2 := twoB_of q1.out g4.out hW4.out hP1.out q2.out g6.out hW6 hP2; clear hW6 hP2 hW4 hP1 q1 q2 g4 g6; have y1 := (st_cells T2.b1).1; have y4 := (st_cells T2.b1).2.2.2.2; have z1 := (st_cells T2.b2).1; have z4 := (st_cells T2.b2).2.2.2.2; rw [SE.out] at y4; rw [TE.out] at z4; rw [TR.out] at z1; have X6 := (T2.gr.block P0 (Array.getElem?_eq_some_iff.1 X0.out).1 (by simp)).trans X0.out; have xo6 := r5_at X6 0 (.int .i64 r.op) rfl; have GE := hide (Bt (below_gr G2.out) (below_gr T2.gr)); clear xo xe xk xv X0; have xq6 := r5_at X6 4 (.bool r.quiet) rfl; have y0 := st_at T2.b1 0 (.slice c1 S.req.cmds.length cc1) rfl; have y5 := st_at T2.b1 5 (.bool S.req.form.quiet) rfl; rw [SQ.out] at y5; obtain ⟨V0, v1_, v2_, qa, qb⟩ := T2.q; obtain ⟨cb, co, rfl, yc, yl⟩ := co_one SC.out (qa.on v2_); rw [yl] at y0; rw [SO.out] at yc; clear qa qb v1_ v2_ yl V0; replace T2 := hide T2))
  go_quiet (fail)
  go_wp2
  go_ret
  exact ⟨by first | rfl | (simp; done), Bt GE.out (below_gr ⟨rfl, rfl, rfl, Nat.le_refl _, fun _ _ _ => rfl⟩)⟩
set_option maxRecDepth 100000 in
set_option maxHeartbeats 8000000 in
theorem codes_none {c : Int} {p : UInt8} (hp : (p.toNat : Int) = c) {key : ByteArray} {r : R5} {x : Nat} {S T : Sv} {R R2 : ByteArray} (hr : r = ofN c) (rx : r.ext = (x : Int)) (rk : r.key = false) (rv : r.val = false) (x1 : x ≤ 20) (k0 : 1 ≤ key.size) (k1 : key.size ≤ 250) (v1 : len ≤ 1000) (hv : Bu W a len cap v)
    (hs : parse16 (packL p (List.replicate x 0) (⟨#[]⟩ : ByteArray).data.toList ([] : List UInt8) 0 7) = S) (ht : parse16 (packL p (List.replicate (x + 1) 0) (⟨#[]⟩ : ByteArray).data.toList ([] : List UInt8) 0 7) = T) (hop : ¬ r.op < 0) (se : S.e = 0) (sq : S.req.form.quiet = r.quiet) {cm : Cv} (sc : S.req.cmds = [cm]) (so : cm.op = r.op) (te : T.e = 2) (tr : T.reply = R2) (hR2 : R2.size = 24) (r7 : ((R2[7]'(by omega)).toNat : Int) = 4) :
    Calls Try.prog 8 #[.int .i64 c, .string key, .slice a len cap] W fun e W' => e = .returned (.bool true) ∧ Below W.heap.size W W' := by
  have hpb := UInt8.toNat_lt p
  have HO : Hid (∀ w : World, Calls Try.prog 16 #[.int .i64 c] w fun e w' => OfE r w e w') := fun w => by rw [hr]; exact of_any (by omega) (by omega)
  have i1 : ¬ c < 0 := by omega
  have i2 : ¬ 255 < c := by omega
  have i3 : ¬ (key.size : Int) < 1 := by omega
  have i4 : ¬ (250 : Int) < (key.size : Int) := by omega
  have i5 : ¬ (1000 : Int) < (len : Int) := by omega
  have xa : x ≤ 100 := by omega
  have xb : x + 1 ≤ 100 := by omega
  have ka : key.size ≤ 1000 := by omega
  have mk1 := fun w => make_x x xa w
  have mk2 := fun w => make_y x xb w
  have ZX := hide (fun w => zeros_bu x xa w)
  have ZX2 := hide (fun w => zeros_bu (x + 1) xb w)
  have HA := hide (fun (w : World) {g : Nat} (h2 : Bu w none 0 0 ([] : List UInt8)) (h1 : Bu w (some ⟨g, 0, none⟩) x x (List.replicate x 0)) => packC (key := (⟨#[]⟩ : ByteArray)) hp xa (by decide) (by decide) hs h2 h1)
  have HA2 := hide (fun (w : World) {g : Nat} (h2 : Bu w none 0 0 ([] : List UInt8)) (h1 : Bu w (some ⟨g, 0, none⟩) (x + 1) (x + 1) (List.replicate (x + 1) 0)) => packC (key := (⟨#[]⟩ : ByteArray)) hp xb (by decide) (by decide) ht h2 h1)
  have ex := x_next xa
  have HB := hide (fun (w : World) (h : Below W.heap.size W w) => bu_nil w)
  have RX := hide rx
  have RK := hide rk
  have RV := hide rv
  have SE := hide se
  have TE := hide te
  have TR := hide tr
  have SQ := hide sq
  have SC := hide sc
  have SO := hide so
  clear hp hpb hr rx rk rv x1 k0 k1 v1 xa xb ka hv hs ht se te tr sq sc so
  go_enter Try.func8, Try.ntmps8
  go_wp2_with (first
    | (go_at_call 9; refine awake_any.mono ?_; rintro e w1 ⟨rfl, g1⟩; replace g1 := hide g1; have N0 : Hid (W = W) := rfl)
    | (have t := N0; clear t; go_at_call 16; refine (HO.out _).mono ?_; rintro e w2 ⟨rfl, g2⟩; obtain ⟨W2, hW2⟩ : ∃ W2, W2 = w2.alloc (.cells (r5C r) 47) := ⟨_, rfl⟩; obtain ⟨P0, hP0⟩ : ∃ P0, P0 = w2.heap.size := ⟨_, rfl⟩; have X0 : W2.heap[P0]? = some (.cells (r5C r) 47 (0, 0)) := (by rw [hW2, hP0]; exact World.alloc_heap_new _ _); have G2 := hide (gr_trans g1.out (gr_trans g2 (by rw [hW2]; exact World.grownBy_alloc _ _ _ : w2.grownBy W2 none))); have xo := r5_at X0 0 (.int .i64 r.op) rfl; have xe := r5_at X0 1 (.int .i64 r.ext) rfl; have xk := r5_at X0 2 (.bool r.key) rfl; have xv := r5_at X0 3 (.bool r.val) rfl; rw [RX.out] at xe; rw [RK.out] at xk; rw [RV.out] at xv; replace X0 := hide X0; clear N0 g2 HO; have N1 : Hid (W = W) := rfl)
    | (have t := N1; clear t; refine wpList_store_row rfl 47 _ _ rfl w2.heap.size (r5C r) rfl rfl _ _ (World.alloc_heap_new w2 _) (r5_size _) rfl (r5_one _) ?_; rw [setRow_alloc, ← hW2, ← hP0]; clear N1 hW2 hP0; have N2 : Hid (W = W) := rfl)
    | (have t := N2; clear t; go_at_call 15; refine (HA.out _ (HB.out _ (below_gr (gr_trans G2.out (World.grownBy_alloc W2 _ none)))) (ZX.out W2)).mono ?_; rintro e w3 ⟨a3, n3, c3, rfl, l3, b3, B3, p3, q3⟩; have l3 := hide l3; have B3 := hide B3; have p3 := hide p3; have q3 := hide (gr_trans (World.grownBy_alloc W2 _ none) q3); clear N2 HA ZX; have N3 : Hid (W = W) := rfl)
    | (have t := N3; clear t; go_at_call 11; refine (pcall q3.out B3.out l3.out p3.out).mono ?_; rintro e w4 ⟨c1, cc1, t1, tc1, k1, kc1, rfl, q1, g4⟩; obtain ⟨W4, hW4⟩ : ∃ W4, W4 = w4.alloc (.cells (stC S c1 cc1 t1 tc1 k1 kc1) 34) := ⟨_, rfl⟩; obtain ⟨P1, hP1⟩ : ∃ P1, P1 = w4.heap.size := ⟨_, rfl⟩; have g24 : W2.grownBy W4 none := gr_trans g4 (by rw [hW4]; exact World.grownBy_alloc _ _ _); have xe4 := keepC g24 xe; have G4 := hide (gr_trans G2.out g24); clear g24; replace q1 := hide q1; replace g4 := hide g4; clear B3 l3 p3 q3 N3; have N4 : Hid (W = W) := rfl)
    | (have t := N4; clear t; refine wpList_store_row rfl 34 _ _ rfl w4.heap.size (stC S c1 cc1 t1 tc1 k1 kc1) rfl rfl _ _ (World.alloc_heap_new w4 _) (step_size _ _ _ _ _ _ _) rfl (step_one _ _ _ _ _ _ _) ?_; rw [setRow_alloc, ← hW4, ← hP1]; clear N4; replace hW4 := hide hW4; replace hP1 := hide hP1; have N5 : Hid (W = W) := rfl)
    | (have t := N5; clear t; go_at_call 15; refine (HA2.out _ (HB.out _ (below_gr (gr_trans G4.out (World.grownBy_alloc W4 _ none)))) (ZX2.out W4)).mono ?_; rintro e w5 ⟨a5, n5, c5, rfl, l5, b5, B5, p5, q5⟩; have l5 := hide l5; have B5 := hide B5; have p5 := hide p5; have q5 := hide (gr_trans (World.grownBy_alloc W4 _ none) q5); clear N5 HA2 ZX2 xe4; have N6 : Hid (W = W) := rfl)
    | (have t := N6; clear t; go_at_call 11; refine (pcall q5.out B5.out l5.out p5.out).mono ?_; rintro e w6 ⟨c2, cc2, t2, tc2, k2, kc2, rfl, q2, g6⟩; obtain ⟨W6, hW6⟩ : ∃ W6, W6 = w6.alloc (.cells (stC T c2 cc2 t2 tc2 k2 kc2) 34) := ⟨_, rfl⟩; obtain ⟨P2, hP2⟩ : ∃ P2, P2 = w6.heap.size := ⟨_, rfl⟩; replace q2 := hide q2; replace g6 := hide g6; clear B5 l5 p5 q5 N6; have N7 : Hid (W = W) := rfl)
    | (have t := N7; clear t; refine wpList_store_row rfl 34 _ _ rfl w6.heap.size (stC T c2 cc2 t2 tc2 k2 kc2) rfl rfl _ _ (World.alloc_heap_new w6 _) (step_size _ _ _ _ _ _ _) rfl (step_one _ _ _ _ _ _ _) ?_; rw [setRow_alloc, ← hW6, ← hP2]; clear N7; have T2 := twoB_of q1.out g4.out hW4.out hP1.out q2.out g6.out hW6 hP2; clear hW6 hP2 hW4 hP1 q1 q2 g4 g6; have y1 := (st_cells T2.b1).1; have y4 := (st_cells T2.b1).2.2.2.2; have z1 := (st_cells T2.b2).1; have z4 := (st_cells T2.b2).2.2.2.2; rw [SE.out] at y4; rw [TE.out] at z4; rw [TR.out] at z1; have X6 := (T2.gr.block P0 (Array.getElem?_eq_some_iff.1 X0.out).1 (by simp)).trans X0.out; have xo6 := r5_at X6 0 (.int .i64 r.op) rfl; have GE := hide (Bt (below_gr G2.out) (below_gr T2.gr)); clear xo xe xk xv X0; have xq6 := r5_at X6 4 (.bool r.quiet) rfl; have y0 := st_at T2.b1 0 (.slice c1 S.req.cmds.length cc1) rfl; have y5 := st_at T2.b1 5 (.bool S.req.form.quiet) rfl; rw [SQ.out] at y5; obtain ⟨V0, v1_, v2_, qa, qb⟩ := T2.q; obtain ⟨cb, co, rfl, yc, yl⟩ := co_one SC.out (qa.on v2_); rw [yl] at y0; rw [SO.out] at yc; clear qa qb v1_ v2_ yl V0; replace T2 := hide T2))
  go_quiet (fail)
  go_wp2
  go_ret
  exact ⟨by first | rfl | (simp; done), Bt GE.out (below_gr ⟨rfl, rfl, rfl, Nat.le_refl _, fun _ _ _ => rfl⟩)⟩
set_option maxRecDepth 100000 in
set_option maxHeartbeats 1000000 in
theorem codes_far {c : Int} {key : ByteArray} (h : c < 0 ∨ 255 < c ∨ key.size < 1 ∨ 250 < key.size ∨ 1000 < len) : Calls Try.prog 8 #[.int .i64 c, .string key, .slice a len cap] W fun e W' => e = .returned (.bool true) ∧ Below W.heap.size W W' := by
  have hq : c < 0 ∨ ¬ c < 0 ∧ 255 < c ∨ ¬ c < 0 ∧ ¬ 255 < c ∧ (key.size : Int) < 1 ∨ ¬ c < 0 ∧ ¬ 255 < c ∧ ¬ (key.size : Int) < 1 ∧ (250 : Int) < (key.size : Int) ∨ ¬ c < 0 ∧ ¬ 255 < c ∧ ¬ (key.size : Int) < 1 ∧ ¬ (250 : Int) < (key.size : Int) ∧ (1000 : Int) < (len : Int) := by omega
  clear h
  rcases hq with h1 | ⟨h1, h2⟩ | ⟨h1, h2, h3⟩ | ⟨h1, h2, h3, h4⟩ | ⟨h1, h2, h3, h4, h5⟩
  all_goals
    go_enter Try.func8, Try.ntmps8
    go_wp2_with (go_at_call 9; refine awake_any.mono ?_; rintro e w1 ⟨rfl, g1⟩; replace g1 := hide g1)
    go_ret
    exact ⟨rfl, below_gr g1.out⟩
end
theorem bininCodes_walk (W : World) (a0 : Int) (w0 : (Lit.int .i64 a0).wf = true) (s : ByteArray) (hs : s.size ≤ 140737488351232) (a2 : Option Addr) (len2 cap2 : Nat) (z2 : List Int) (w2 : IsRow .u8 W a2 len2 cap2 z2) :
    Calls Try.prog 8 #[.int .i64 a0, .string s, .slice a2 len2 cap2] W fun e W' => e = .returned (.bool true) ∧ Below W.heap.size W W' := by
  obtain ⟨v, hv⟩ := Bu.of w2
  have hn := hv.n
  by_cases h : a0 < 0 ∨ 255 < a0 ∨ s.size < 1 ∨ 250 < s.size ∨ 1000 < len2
  · exact codes_far h
  · have hp : (((UInt8.ofNat a0.toNat).toNat : Nat) : Int) = a0 := by rw [UInt8.toNat_ofNat']; omega
    obtain ⟨x, hx⟩ : ∃ x : Nat, (ofN a0).ext = (x : Int) := ⟨(ofN a0).ext.toNat, by have := ext_bd a0; omega⟩
    have hx1 : x ≤ 20 := by have := ext_bd a0; omega
    have hk : s.data.toList.length = s.size := rfl
    have f7 : ∀ c s o, 0 ≤ s → s ≤ 255 → ∀ h, (((strOf (faultZ c s o))[7]'h).toNat : Int) = s := fun c s o h0 h1 h => fault_b7 h0 h1 h
    by_cases hop : (ofN a0).op < 0
    · have hb : (ofN a0).key = true ∧ (ofN a0).val = false := bad_row (by omega) (by omega) hop
      have C := codes16 hp hx (key := s.data.toList) (v := []) ⟨by rw [if_pos hb.1]; omega, by rw [if_neg (by rw [hb.2]; decide)]; rfl⟩
      obtain ⟨c2, s2, o2, e2, e3⟩ := C.tr
      obtain ⟨e4, c5, o5, e5⟩ := C.bad hop
      exact codes_bad hp rfl hx hb.1 hb.2 hx1 (by omega) (by omega) (by omega) hv rfl rfl hop e4 e5 rfl (f7 _ _ _ (by decide) (by decide) _) C.te e2 rfl
    · have hh : (ofN a0).key = true ∧ (ofN a0).val = true ∨ (ofN a0).key = true ∧ (ofN a0).val = false ∨ (ofN a0).key = false ∧ (ofN a0).val = false := by
        have T := tab_of (c := a0) (by omega) (by omega) (by omega)
        unfold TabN at T
        rcases T with ⟨_, _, t1, t2⟩ | ⟨_, _, t1, t2⟩ | ⟨_, _, t1, t2⟩ | ⟨_, _, t1, t2⟩ | ⟨_, _, t1, t2⟩ | ⟨_, _, t1, t2⟩ | ⟨_, _, t1, t2⟩ <;> simp [t1, t2]
      rcases hh with ⟨h1, h2⟩ | ⟨h1, h2⟩ | ⟨h1, h2⟩
      · have C := codes16 hp hx (key := s.data.toList) (v := v) ⟨by rw [if_pos h1]; omega, by rw [if_pos h2]; omega⟩
        obtain ⟨c2, s2, o2, e2, e3⟩ := C.tr
        obtain ⟨e4, e5, cm, e6, e7⟩ := C.ok hop
        rw [if_neg hop] at e3
        subst e3
        exact codes_kv hp (R := ⟨#[]⟩) rfl hx h1 h2 hx1 (by omega) (by omega) (by omega) hv rfl rfl hop e4 e5 e6 e7 C.te e2 rfl (f7 _ _ _ (by decide) (by decide) _)
      · have C := codes16 hp hx (key := s.data.toList) (v := []) ⟨by rw [if_pos h1]; omega, by rw [if_neg (by rw [h2]; decide)]; rfl⟩
        obtain ⟨c2, s2, o2, e2, e3⟩ := C.tr
        obtain ⟨e4, e5, cm, e6, e7⟩ := C.ok hop
        rw [if_neg hop] at e3
        subst e3
        exact codes_k hp (R := ⟨#[]⟩) rfl hx h1 h2 hx1 (by omega) (by omega) (by omega) hv rfl rfl hop e4 e5 e6 e7 C.te e2 rfl (f7 _ _ _ (by decide) (by decide) _)
      · have C := codes16 hp hx (key := []) (v := []) ⟨by rw [if_neg (by rw [h1]; decide)]; rfl, by rw [if_neg (by rw [h2]; decide)]; rfl⟩
        obtain ⟨c2, s2, o2, e2, e3⟩ := C.tr
        obtain ⟨e4, e5, cm, e6, e7⟩ := C.ok hop
        rw [if_neg hop] at e3
        subst e3
        exact codes_none hp (R := ⟨#[]⟩) rfl hx h1 h2 hx1 (by omega) (by omega) (by omega) hv rfl rfl hop e4 e5 e6 e7 C.te e2 rfl (f7 _ _ _ (by decide) (by decide) _)
end Go.Proofs.Ytegaljpllcgaaaa
