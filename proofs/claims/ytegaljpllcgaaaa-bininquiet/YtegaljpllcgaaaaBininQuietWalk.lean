/- BininQuiet returns true for every row of bytes and every number, and writes nothing that was there. Conditions: none. -/
import Derived.Test.YtegaljpllcgaaaaBinTwo
import Derived.Test.YtegaljpllcgaaaaBinQuM
namespace Go.Proofs.Ytegaljpllcgaaaa
set_option linter.unusedVariables false
open Go.RowKit

theorem byU_set (u : List UInt8) (k : Nat) (p : UInt8) : byU (u.set k p) = (byU u).set k (.int .u8 (p.toNat : Int)) := by
  unfold byU byV ints
  simp only [List.map_map, List.map_set]
/-- Two copies of a row, a byte of each written. -/
theorem two_rows {w1 w3 w4 : World} {a3 a4 : Option Addr} {n c3 c4 : Nat} {u : List UInt8} {z3 z4 : Int} {p q : UInt8} (hp : (p.toNat : Int) = z3) (hq : (q.toNat : Int) = z4) (hn : u.length = n) (h1 : 1 < n) (o3 : w3.ownsRow w1.heap.size 5 1 (.slice a3 n c3) n ([] ++ byU u)) (g3 : w1.grownBy w3 none) (o4 : w4.ownsRow w3.heap.size 5 1 (.slice a4 n c4) n ([] ++ byU u)) (g4 : w3.grownBy w4 none) :
    ∃ gx gy ux uy, a3 = some ⟨gx, 0, none⟩ ∧ a4 = some ⟨gy, 0, none⟩ ∧ w4.cell? ⟨gx, 1, none⟩ = some ux ∧ w4.frozen? ⟨gx, 1, none⟩ = false ∧ (w4.setCell ⟨gx, 1, none⟩ (.int .u8 z3)).cell? ⟨gy, 1, none⟩ = some uy ∧ (w4.setCell ⟨gx, 1, none⟩ (.int .u8 z3)).frozen? ⟨gy, 1, none⟩ = false ∧
      Bu ((w4.setCell ⟨gx, 1, none⟩ (.int .u8 z3)).setCell ⟨gy, 1, none⟩ (.int .u8 z4)) (some ⟨gx, 0, none⟩) n c3 (u.set 1 p) ∧ Bu ((w4.setCell ⟨gx, 1, none⟩ (.int .u8 z3)).setCell ⟨gy, 1, none⟩ (.int .u8 z4)) (some ⟨gy, 0, none⟩) n c4 (u.set 1 q) ∧ w1.grownBy ((w4.setCell ⟨gx, 1, none⟩ (.int .u8 z3)).setCell ⟨gy, 1, none⟩ (.int .u8 z4)) none := by
  obtain ⟨gx, cx, ex⟩ := own_form o3 (by omega)
  cases ex
  obtain ⟨gy, cy, ey⟩ := own_form o4 (by omega)
  cases ey
  have lx : w1.heap.size ≤ gx ∧ gx < w3.heap.size := ⟨(own_at o3 rfl).1, (own_at o3 rfl).2.1⟩
  have ly : w3.heap.size ≤ gy ∧ gy < w4.heap.size := ⟨(own_at o4 rfl).1, (own_at o4 rfl).2.1⟩
  have hne : gx ≠ gy := by omega
  have q3 : w4.ownsRow w1.heap.size 5 1 (.slice (some ⟨gx, 0, none⟩) n c3) n (byU u) := own_same o3 fun k hk => by cases hk; exact g4.block gx lx.2 (by simp)
  have q4 : w4.ownsRow w3.heap.size 5 1 (.slice (some ⟨gy, 0, none⟩) n c4) n (byU u) := o4
  have hl : (byU u).length = n := by rw [byU_len, hn]
  obtain ⟨r3, k3⟩ := World.ownsRow.stored q3 1 (.int .u8 z3)
  have r4 : (w4.setCell ⟨gx, 1, none⟩ (.int .u8 z3)).ownsRow w3.heap.size 5 1 (.slice (some ⟨gy, 0, none⟩) n c4) n (byU u) := own_same q4 fun k hk => by cases hk; exact heap_setCell_other _ _ _ _ (Ne.symm hne)
  obtain ⟨s4, k4⟩ := World.ownsRow.stored r4 1 (.int .u8 z4)
  have s3 : ((w4.setCell ⟨gx, 1, none⟩ (.int .u8 z3)).setCell ⟨gy, 1, none⟩ (.int .u8 z4)).ownsRow w1.heap.size 5 1 (.slice (some ⟨gx, 0, none⟩) n c3) n ((byU u).set 1 (.int .u8 z3)) := own_same r3 fun k hk => by cases hk; exact heap_setCell_other _ _ _ _ hne
  have c1 := q3.cellAt 1 (by omega)
  have c2 := r4.cellAt 1 (by omega)
  rw [List.getElem?_eq_getElem (by omega)] at c1 c2
  have val : ∀ {w : World} {b g c : Nat} {z : Int} {t : UInt8}, (t.toNat : Int) = z → w.ownsRow b 5 1 (.slice (some ⟨g, 0, none⟩) n c) n ((byU u).set 1 (.int .u8 z)) → Bu w (some ⟨g, 0, none⟩) n c (u.set 1 t) := fun {w b g c z t} ht h => by
    have hv : ValAt b w (some ⟨g, 0, none⟩) c (u.set 1 t) := by
      unfold ValAt
      rw [List.length_set, hn, byU_set, ht]
      exact h
    have := hv.bu
    rw [List.length_set, hn] at this
    exact this
  refine ⟨gx, gy, _, _, rfl, rfl, c1, q3.frozenAt 1, c2, r4.frozenAt 1, val hp s3, val hq s4, ?_⟩
  exact gr_own (gr_own (gr_trans g3 g4) k3 (fun j hj => by cases hj; exact lx.1)) k4 (fun j hj => by cases hj; exact Nat.le_trans g3.size ly.1)
theorem hush_back {w W : World} {s t : Sv} {P1 P2 : Nat} {c : Int} {ca ta ka cb tb kb : Option Addr} {cc tc kc cd td kd : Nat} (hh : t = hushS s) (sq : s.req.form.quiet = false) (sc : s.req.form.code = c) (h : TwoB w W P1 P2 s t ca ta ka cb tb kb cc tc kc cd td kd) : TwoB w ((W.setCell ⟨P2, 5, none⟩ (.bool false)).setCell ⟨P2, 3, none⟩ (.int .i64 c)) P1 P2 s s ca ta ka cb tb kb cc tc kc cd td kd := by
  subst hh
  have h1 := h.put2 5 (.bool false) (s' := { s with req := { s.req with form := { s.req.form with quiet := false, code := s.req.form.code + 16 } } }) (by simp [stC, hushS]) (fun W' q => ⟨q.cmds, q.toks, q.keys⟩)
  refine h1.put2 3 (.int .i64 c) (s' := s) ?_ (fun W' q => ⟨q.cmds, q.toks, q.keys⟩)
  obtain ⟨⟨cmds, ⟨dia, verb, code, opq, quiet, wcas, flags, toks, keys, b64⟩⟩, reply, used, skip, line, e⟩ := s
  simp only [] at sq sc
  subst sq sc
  simp [stC]
section
variable {W : World} {a : Option Addr} {len cap : Nat} {u : List UInt8} {c : Int}
set_option maxRecDepth 100000 in
set_option maxHeartbeats 4000000 in
theorem quiet_err {s t : Sv} {e n : Int} {r1 r2 : ByteArray} {p q : UInt8} (hu : Bu W a len cap u) (hl : len ≤ 3000) (h24 : 24 ≤ len) (c1 : 1 ≤ c) (c8 : c ≤ 8) (hp : Hid ((p.toNat : Int) = c)) (hq : Hid ((q.toNat : Int) = c + 16)) (hs : parse16 (u.set 1 p) = s) (ht : parse16 (u.set 1 q) = t) (se : s.e = e) (te : t.e = e) (sn : s.used = n) (tn : t.used = n) (e0 : (e != 0) = true) (sr : s.reply = r1) (tr : t.reply = r2) (hr : r1.size = r2.size) : Calls Try.prog 6 #[.slice a len cap, .int .i64 c] W fun e W' => e = .returned (.bool true) ∧ Below W.heap.size W W' := by
  have hli : (len : Int) ≤ 3000 := by omega
  have hl24 : (24 : Int) ≤ (len : Int) := by omega
  have hl1 : (1 : Int) < (len : Int) := by omega
  have H1 : Hid (1 < len) := by show _ < _; omega
  have HL : Hid (len ≤ 100000) := by show _ ≤ _; omega
  have cw : IntKind.u8.wrap c = c := by rw [IntKind.wrap_u8]; omega
  have cv : IntKind.u8.wrap (c + 16) = c + 16 := by rw [IntKind.wrap_u8]; omega
  have cx : wrap64 (c + 16) = c + 16 := by unfold wrap64; omega
  have ca1 : ¬ c < 1 := by omega
  have ca8 : ¬ 8 < c := by omega
  have HN := hide hu.n
  have HU := hide (fun (w : World) (h : Below W.heap.size W w) => hu.on h)
  have HS := hide hs
  have HT := hide ht
  have SE := hide se
  have TE := hide te
  have SN := hide sn
  have TN := hide tn
  have SR := hide sr
  have TR := hide tr
  clear hu hl h24 c1 c8 hs ht se te sn tn sr tr
  go_enter Try.func6, Try.ntmps6
  go_wp2_with (first
    | (go_at_call 9; refine awake_any.mono ?_; rintro e w1 ⟨rfl, g1⟩; have B1 := hide (below_gr g1); clear g1)
    | (have t := B1; clear t; at_builtin; refine wpList_append_bs rfl _ _ rfl w1.heap.size _ 0 [] rfl (World.ownsRow_nil _ _ _ _) _ len cap u rfl HN.out (HU.out _ B1.out).b (by omega) (Nat.le_refl _) ?_; intro v3 w3 o3 g3 _; rw [Nat.zero_add] at o3; obtain ⟨a3, c3, rfl⟩ := own_shape o3; replace o3 := hide o3; have B3 := hide (Bt B1.out (below_gr g3)); have G3 : Hid (w1.grownBy w3 none) := g3; have B0 := hide B1.out; clear g3 B1)
    | (have t := B3; clear t; at_builtin; refine wpList_append_bs rfl _ _ rfl w3.heap.size _ 0 [] rfl (World.ownsRow_nil _ _ _ _) _ len cap u rfl HN.out (HU.out _ B3.out).b (by omega) (Nat.le_refl _) ?_; intro v4 w4 o4 g4 _; rw [Nat.zero_add] at o4; obtain ⟨a4, c4, rfl⟩ := own_shape o4; have G4 : w3.grownBy w4 none := g4; obtain ⟨gx, gy, ux, uy, rfl, rfl, x1, x2, x3, x4, x5, x6, x7⟩ := two_rows hp.out hq.out HN.out H1.out o3.out G3.out o4 G4; replace x5 := hide x5; replace x6 := hide x6; replace x7 := hide x7; clear o3 o4 G3 G4 g4 B3; have N0 : Hid (W = W) := rfl)
    | (have t := N0; clear t; go_at_call 11; refine (pcall (gr_refl _ none) x5.out HL.out HS.out).mono ?_; rintro e w5 ⟨ca, cc, ta, tc, ka, kc, rfl, q1, g5⟩; obtain ⟨W5, hW5⟩ : ∃ W5, W5 = w5.alloc (.cells (stC s ca cc ta tc ka kc) 34) := ⟨_, rfl⟩; obtain ⟨P1, hP1⟩ : ∃ P1, P1 = w5.heap.size := ⟨_, rfl⟩; have BY := hide (x6.out.on (below_gr (gr_trans g5 (by rw [hW5]; exact World.grownBy_alloc _ _ _ : w5.grownBy W5 none)))); replace q1 := hide q1; replace g5 := hide (gr_trans x7.out g5); clear N0 x1 x2 x3 x4 x5 x6 x7; have N1 : Hid (W = W) := rfl)
    | (have t := N1; clear t; refine wpList_store_row rfl 34 _ _ rfl w5.heap.size (stC s ca cc ta tc ka kc) rfl rfl _ _ (World.alloc_heap_new w5 _) (step_size _ _ _ _ _ _ _) rfl (step_one _ _ _ _ _ _ _) ?_; rw [setRow_alloc, ← hW5, ← hP1]; clear N1; replace hW5 := hide hW5; replace hP1 := hide hP1; have N2 : Hid (W = W) := rfl)
    | (have t := N2; clear t; go_at_call 11; refine (pcall (gr_refl _ none) BY.out HL.out HT.out).mono ?_; rintro e w7 ⟨cb, cd, tb, td, kb, kd, rfl, q2, g7⟩; obtain ⟨W7, hW7⟩ : ∃ W7, W7 = w7.alloc (.cells (stC t cb cd tb td kb kd) 34) := ⟨_, rfl⟩; obtain ⟨P2, hP2⟩ : ∃ P2, P2 = w7.heap.size := ⟨_, rfl⟩; clear N2 BY; have N3 : Hid (W = W) := rfl; replace q2 := hide q2; replace g7 := hide g7)
    | (have t := N3; clear t; refine wpList_store_row rfl 34 _ _ rfl w7.heap.size (stC t cb cd tb td kb kd) rfl rfl _ _ (World.alloc_heap_new w7 _) (step_size _ _ _ _ _ _ _) rfl (step_one _ _ _ _ _ _ _) ?_; rw [setRow_alloc, ← hW7, ← hP2]; clear N3; have T2 := twoB_of q1.out g5.out hW5.out hP1.out q2.out g7.out hW7 hP2; clear hW7 hP2 hW5 hP1 q1 q2 g5 g7; have y1 := (st_cells T2.b1).1; have y2 := (st_cells T2.b1).2.1; have y4 := (st_cells T2.b1).2.2.2.2; have z1 := (st_cells T2.b2).1; have z2 := (st_cells T2.b2).2.1; have z4 := (st_cells T2.b2).2.2.2.2; rw [SE.out] at y4; rw [TE.out] at z4; rw [SN.out] at y2; rw [TN.out] at z2; rw [SR.out] at y1; rw [TR.out] at z1; replace T2 := hide T2))
  go_ret
  exact ⟨by first | rfl | (simp; done) | (simp [hr]; done), Bt B0.out (below_gr T2.out.gr)⟩
set_option maxRecDepth 100000 in
set_option maxHeartbeats 4000000 in
theorem quiet_ok {s t : Sv} {n : Int} {p q : UInt8} (hu : Bu W a len cap u) (hl : len ≤ 3000) (h24 : 24 ≤ len) (c1 : 1 ≤ c) (c8 : c ≤ 8) (hp : Hid ((p.toNat : Int) = c)) (hq : Hid ((q.toNat : Int) = c + 16)) (hs : parse16 (u.set 1 p) = s) (ht : parse16 (u.set 1 q) = t) (hhu : t = hushS s) (se : s.e = 0) (sn : s.used = n) (sq : s.req.form.quiet = false) (sc : s.req.form.code = c) (hf : Few1 s.req) : Calls Try.prog 6 #[.slice a len cap, .int .i64 c] W fun e W' => e = .returned (.bool true) ∧ Below W.heap.size W W' := by
  have hli : (len : Int) ≤ 3000 := by omega
  have hl24 : (24 : Int) ≤ (len : Int) := by omega
  have hl1 : (1 : Int) < (len : Int) := by omega
  have H1 : Hid (1 < len) := by show _ < _; omega
  have HL : Hid (len ≤ 100000) := by show _ ≤ _; omega
  have cw : IntKind.u8.wrap c = c := by rw [IntKind.wrap_u8]; omega
  have cv : IntKind.u8.wrap (c + 16) = c + 16 := by rw [IntKind.wrap_u8]; omega
  have cx : wrap64 (c + 16) = c + 16 := by unfold wrap64; omega
  have ca1 : ¬ c < 1 := by omega
  have ca8 : ¬ 8 < c := by omega
  have HN := hide hu.n
  have HU := hide (fun (w : World) (h : Below W.heap.size W w) => hu.on h)
  have HS := hide hs
  have HT := hide ht
  have TE : Hid (t.e = 0) := by show _ = _; rw [hhu]; exact se
  have TN : Hid (t.used = n) := by show _ = _; rw [hhu]; exact sn
  have TQ : Hid (t.req.form.quiet = true) := by show _ = _; rw [hhu]; rfl
  have TC : Hid (t.req.form.code = c + 16) := by show _ = _; rw [hhu]; show s.req.form.code + 16 = _; rw [sc]
  have cy : wrap64 (c + 16 - 16) = c := by unfold wrap64; omega
  have cy2 : wrap64 c = c := by unfold wrap64; omega
  have HB2 := hide (fun (w W : World) (P1 P2 : Nat) (ca ta ka cb tb kb : Option Addr) (cc tc kc cd td kd : Nat) (h : TwoB w W P1 P2 s t ca ta ka cb tb kb cc tc kc cd td kd) => hush_back hhu sq sc h)
  have HSE := hide (fun (w : World) (cs ds : Array Value) (h1 : StepAt w s cs) (h2 : StepAt w s ds) => steps_eq hf h1 h2)
  have SE := hide se
  have SN := hide sn
  clear hu hl h24 c1 c8 hs ht se sn hhu sq sc hf
  go_enter Try.func6, Try.ntmps6
  go_wp2_with (first
    | (go_at_call 9; refine awake_any.mono ?_; rintro e w1 ⟨rfl, g1⟩; have B1 := hide (below_gr g1); clear g1)
    | (have t := B1; clear t; at_builtin; refine wpList_append_bs rfl _ _ rfl w1.heap.size _ 0 [] rfl (World.ownsRow_nil _ _ _ _) _ len cap u rfl HN.out (HU.out _ B1.out).b (by omega) (Nat.le_refl _) ?_; intro v3 w3 o3 g3 _; rw [Nat.zero_add] at o3; obtain ⟨a3, c3, rfl⟩ := own_shape o3; replace o3 := hide o3; have B3 := hide (Bt B1.out (below_gr g3)); have G3 : Hid (w1.grownBy w3 none) := g3; have B0 := hide B1.out; clear g3 B1)
    | (have t := B3; clear t; at_builtin; refine wpList_append_bs rfl _ _ rfl w3.heap.size _ 0 [] rfl (World.ownsRow_nil _ _ _ _) _ len cap u rfl HN.out (HU.out _ B3.out).b (by omega) (Nat.le_refl _) ?_; intro v4 w4 o4 g4 _; rw [Nat.zero_add] at o4; obtain ⟨a4, c4, rfl⟩ := own_shape o4; have G4 : w3.grownBy w4 none := g4; obtain ⟨gx, gy, ux, uy, rfl, rfl, x1, x2, x3, x4, x5, x6, x7⟩ := two_rows hp.out hq.out HN.out H1.out o3.out G3.out o4 G4; replace x5 := hide x5; replace x6 := hide x6; replace x7 := hide x7; clear o3 o4 G3 G4 g4 B3; have N0 : Hid (W = W) := rfl)
    | (have t := N0; clear t; go_at_call 11; refine (pcall (gr_refl _ none) x5.out HL.out HS.out).mono ?_; rintro e w5 ⟨ca, cc, ta, tc, ka, kc, rfl, q1, g5⟩; obtain ⟨W5, hW5⟩ : ∃ W5, W5 = w5.alloc (.cells (stC s ca cc ta tc ka kc) 34) := ⟨_, rfl⟩; obtain ⟨P1, hP1⟩ : ∃ P1, P1 = w5.heap.size := ⟨_, rfl⟩; have BY := hide (x6.out.on (below_gr (gr_trans g5 (by rw [hW5]; exact World.grownBy_alloc _ _ _ : w5.grownBy W5 none)))); replace q1 := hide q1; replace g5 := hide (gr_trans x7.out g5); clear N0 x1 x2 x3 x4 x5 x6 x7; have N1 : Hid (W = W) := rfl)
    | (have t := N1; clear t; refine wpList_store_row rfl 34 _ _ rfl w5.heap.size (stC s ca cc ta tc ka kc) rfl rfl _ _ (World.alloc_heap_new w5 _) (step_size _ _ _ _ _ _ _) rfl (step_one _ _ _ _ _ _ _) ?_; rw [setRow_alloc, ← hW5, ← hP1]; clear N1; replace hW5 := hide hW5; replace hP1 := hide hP1; have N2 : Hid (W = W) := rfl)
    | (have t := N2; clear t; go_at_call 11; refine (pcall (gr_refl _ none) BY.out HL.out HT.out).mono ?_; rintro e w7 ⟨cb, cd, tb, td, kb, kd, rfl, q2, g7⟩; obtain ⟨W7, hW7⟩ : ∃ W7, W7 = w7.alloc (.cells (stC t cb cd tb td kb kd) 34) := ⟨_, rfl⟩; obtain ⟨P2, hP2⟩ : ∃ P2, P2 = w7.heap.size := ⟨_, rfl⟩; clear N2 BY; have N3 : Hid (W = W) := rfl; replace q2 := hide q2; replace g7 := hide g7)
    | (have t := N3; clear t; refine wpList_store_row rfl 34 _ _ rfl w7.heap.size (stC t cb cd tb td kb kd) rfl rfl _ _ (World.alloc_heap_new w7 _) (step_size _ _ _ _ _ _ _) rfl (step_one _ _ _ _ _ _ _) ?_; rw [setRow_alloc, ← hW7, ← hP2]; clear N3; have T2 := twoB_of q1.out g5.out hW5.out hP1.out q2.out g7.out hW7 hP2; clear hW7 hP2 hW5 hP1 q1 q2 g5 g7; have y1 := (st_cells T2.b1).1; have y2 := (st_cells T2.b1).2.1; have y4 := (st_cells T2.b1).2.2.2.2; have z1 := (st_cells T2.b2).1; have z2 := (st_cells T2.b2).2.1; have z4 := (st_cells T2.b2).2.2.2.2; have z5 : W7.cell? ⟨P2, 5, none⟩ = some (.bool t.req.form.quiet) := st_at T2.b2 5 _ rfl; have z3 : W7.cell? ⟨P2, 3, none⟩ = some (.int .i64 t.req.form.code) := st_at T2.b2 3 _ rfl; rw [SE.out] at y4; rw [TE.out] at z4; rw [SN.out] at y2; rw [TN.out] at z2; rw [TQ.out] at z5; rw [TC.out] at z3; have fr5 : W7.frozen? ⟨P2, 5, none⟩ = false := frozen_of_row W7 P2 5 _ _ T2.b2; have fr3 : (W7.setCell ⟨P2, 5, none⟩ (.bool false)).frozen? ⟨P2, 3, none⟩ = false := frozen_of_row _ P2 3 _ _ (heap_setCell_same W7 P2 5 _ _ (.bool false) T2.b2); have T3 := hide (HB2.out _ _ _ _ _ _ _ _ _ _ _ _ _ _ _ _ T2); clear T2 HB2; have N4 : Hid (W = W) := rfl)
    | (have t5 := N4; clear t5; refine wpList_load_row rfl 34 _ rfl P1 rfl _ _ _ _ T3.out.b1 Try.underlying34 rfl (step_size _ _ _ _ _ _ _) ?_; clear N4)
    | (refine wpList_load_row rfl 34 _ rfl P2 rfl _ _ _ _ T3.out.b2 Try.underlying34 rfl (step_size _ _ _ _ _ _ _) ?_)
    | (go_at_call 10; refine (HSE.out _ _ _ T3.out.now.1 T3.out.now.2).mono ?_; rintro e w9 ⟨rfl, g9⟩; replace g9 := hide g9))
  go_ret
  exact ⟨by first | rfl | (simp; done), Bt B0.out (below_gr (gr_trans T3.out.gr g9.out))⟩
set_option maxRecDepth 100000 in
set_option maxHeartbeats 1000000 in
theorem quiet_far (h : 3000 < len ∨ len < 24 ∨ c < 1 ∨ 8 < c) : Calls Try.prog 6 #[.slice a len cap, .int .i64 c] W fun e W' => e = .returned (.bool true) ∧ Below W.heap.size W W' := by
  have hq : (3000 : Int) < (len : Int) ∨ ¬ (3000 : Int) < (len : Int) ∧ (len : Int) < 24 ∨ ¬ (3000 : Int) < (len : Int) ∧ ¬ (len : Int) < 24 ∧ c < 1 ∨ ¬ (3000 : Int) < (len : Int) ∧ ¬ (len : Int) < 24 ∧ ¬ c < 1 ∧ 8 < c := by omega
  clear h
  rcases hq with h1 | ⟨h1, h2⟩ | ⟨h1, h2, h3⟩ | ⟨h1, h2, h3, h4⟩
  all_goals
    go_enter Try.func6, Try.ntmps6
    go_wp2_with (go_at_call 9; refine awake_any.mono ?_; rintro e w1 ⟨rfl, g1⟩; replace g1 := hide g1)
    go_ret
    exact ⟨rfl, below_gr g1.out⟩
end
theorem bininQuiet_walk (W : World) (a0 : Option Addr) (len0 cap0 : Nat) (z0 : List Int) (w0 : IsRow .u8 W a0 len0 cap0 z0) (a1 : Int) (w1 : (Lit.int .i64 a1).wf = true) :
    Calls Try.prog 6 #[.slice a0 len0 cap0, .int .i64 a1] W fun e W' => e = .returned (.bool true) ∧ Below W.heap.size W W' := by
  obtain ⟨u, hu⟩ := Bu.of w0
  have hn := hu.n
  by_cases h : 3000 < len0 ∨ len0 < 24 ∨ a1 < 1 ∨ 8 < a1
  · exact quiet_far h
  · have hp : (((UInt8.ofNat a1.toNat).toNat : Nat) : Int) = a1 := by rw [UInt8.toNat_ofNat']; omega
    have hq : (((UInt8.ofNat (a1 + 16).toNat).toNat : Nat) : Int) = a1 + 16 := by rw [UInt8.toNat_ofNat']; omega
    obtain ⟨e1, e2, ⟨e3, e4⟩ | ⟨e3, e4, e5, e6⟩⟩ := quiet16 (b := u) (c := a1) (by omega) (by omega) (by omega) hp hq
    · exact quiet_err hu (by omega) (by omega) (by omega) (by omega) hp hq rfl rfl rfl e1.symm rfl e2.symm (by simpa using e3) rfl rfl e4
    · exact quiet_ok hu (by omega) (by omega) (by omega) (by omega) hp hq rfl rfl e6 e3 rfl e4 e5 (few16 _).1
end Go.Proofs.Ytegaljpllcgaaaa
