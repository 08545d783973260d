/- The document's own Read of the binary dialect. Conditions: at most 100000 bytes. -/
import Derived.Test.YtaafkefgpgoepaaBoRM
import Derived.Test.YtaafkefgpgoepaaBinGet
import Derived.Test.YtaafkefgpgoepaaClassPut
import Derived.Test.YtaafkefgpgoepaaSetRow
import Derived.Deep.Cut
namespace Go.Proofs.Ytaafkefgpgoepaa
set_option linter.unusedVariables false
set_option linter.unusedSimpArgs false
open Go.RowKit Go.Shelf

/-- An answer that is read, as cells. -/
def avC (a : Av) (xa : Option Addr) (xc : Nat) (ka : Option Addr) (kc : Nat) (va : Option Addr) (vc : Nat) : Array Value :=
  #[.int .i64 a.code, .int .u16 a.st, .int .u32 a.opq, .int .u64 a.cas, .slice xa a.x.length xc, .slice ka a.key.length kc, .slice va a.v.length vc, .int .i64 a.used]
theorem av_size (a : Av) (xa : Option Addr) (xc : Nat) (ka : Option Addr) (kc : Nat) (va : Option Addr) (vc : Nat) : (Try.prog.info? 42).map (·.size) = some (avC a xa xc ka kc va vc).size := by
  have h : (Try.prog.info? 42).map (·.size) = some 8 := by kernel_rfl
  exact h
theorem av_one (a : Av) (xa : Option Addr) (xc : Nat) (ka : Option Addr) (kc : Nat) (va : Option Addr) (vc : Nat) : (avC a xa xc ka kc va vc).all (·.oneCell') = true := by simp [avC, Value.oneCell']
def RdA (a : Av) (w : World) (e : Ending) (w' : World) : Prop := ∃ xa xc ka kc va vc, e = .returned (.agg (avC a xa xc ka kc va vc)) ∧ Bu w' xa a.x.length xc a.x ∧ Bu w' ka a.key.length kc a.key ∧ Bu w' va a.v.length vc a.v ∧ w.grownBy w' none
theorem rdA_ret {fn : Func} {w W : World} {g : Nat} {a : Av} {xa ka va : Option Addr} {xc kc vc : Nat} {tmps : Array Value} {p : Tmp} (hf : fn.results = #[.cell p 42]) (hb : W.heap[g]? = some (.cells (avC a xa xc ka kc va vc) 42 (0, 0))) (h4 : tmps.getD p undef = .pointer (some ⟨g, 0, none⟩)) (h1 : Bu W xa a.x.length xc a.x) (h2 : Bu W ka a.key.length kc a.key) (h3 : Bu W va a.v.length vc a.v) (hg : w.grownBy W none) :
    bodyPost Try.prog fn (RdA a w) .ret { tmps := tmps, defers := [] } W :=
  bodyPost_ret (results_cell_row hf tmps W g 42 (avC a xa xc ka kc va vc) (0, 0) _ h4 hb Try.underlying42 rfl (av_size _ _ _ _ _ _ _)) rfl ⟨_, _, _, _, _, _, rfl, h1, h2, h3, hg⟩
theorem sub_quiet {P : Program} {C : World → Prop} {o : Oper} {a : Act} {w : World} {ty : TypeId} {x lo hi : Operand} {u : Value} {i j : Value} {v : Value} (h : (Instr.sliceAt ty u (some i) (some j) none).run P w = .ok v w) (ho : o.op = .slice ty x (some lo) (some hi) none := by rfl) (hx : a.eval x = u := by rfl) (hl : a.eval lo = i := by rfl) (hh : a.eval hi = j := by rfl) : o.quietAt P a C w v := by
  subst hx hl hh
  unfold Oper.quietAt execOp
  simp only [ho, Option.map_some, Option.map_none, Sem.run_bind, Sem.run_pure, Result.andThen_ok, h]
  exact ⟨rfl, rfl⟩
theorem w64_idA {z : Int} (h0 : 0 ≤ z) (h1 : z < 8589934592) : wrap64 z = z := by unfold wrap64; omega
theorem u16_idA {z : Int} (h0 : 0 ≤ z) (h1 : z ≤ 65535) : IntKind.u16.wrap z = z := by
  simp only [IntKind.wrap, IntKind.signed, IntKind.bits, Bool.false_and, Bool.false_eq_true, if_false]
  omega
theorem bu_zero (w : World) : Bu w none 0 0 [] := ⟨rfl, .inl ⟨rfl, rfl, fun _ => rfl⟩, Nat.le_refl _, Nat.zero_le _⟩
theorem av_in {t : TypeId} (w W : World) (B : Nat) (old cs : Array Value) (h : W.heap[B]? = some (.cells old t (0, 0))) (hb : w.heap.size ≤ B) (g : w.grownBy W none) : ∃ W', W.setRow B cs = W' ∧ W'.heap[B]? = some (.cells cs t (0, 0)) ∧ w.grownBy W' none :=
  ⟨_, rfl, setRow_heap W B old cs _ _ h, ⟨g.os, g.tape, g.output, by rw [size_setRow]; exact g.size, fun k hk hn => (setRow_other W B k _ (by omega)).trans (g.block k hk hn)⟩⟩
section
variable {w : World} {g off len cap : Nat} {b : List UInt8}
/-- What the walks share. -/
structure RdH (w : World) (g off len cap : Nat) (b : List UInt8) : Prop where
  c0 : ∀ W, w.grownBy W none → W.cell? ⟨g, off, none⟩ = some (.int .u8 ((b.getD 0 0).toNat : Int))
  c1 : ∀ W, w.grownBy W none → W.cell? ⟨g, off + 1, none⟩ = some (.int .u8 (by1 b))
  c4 : ∀ W, w.grownBy W none → W.cell? ⟨g, off + 4, none⟩ = some (.int .u8 (by4 b))
  g2 : ∀ W, w.grownBy W none → Calls Try.prog 25 #[.slice (some ⟨g, off + 2, none⟩) 2 (cap - 2)] W fun e w' => e = .returned (.int .u64 (getB b 2 2)) ∧ w' = W
  g6 : ∀ W, w.grownBy W none → Calls Try.prog 25 #[.slice (some ⟨g, off + 6, none⟩) 2 (cap - 6)] W fun e w' => e = .returned (.int .u64 (getB b 6 2)) ∧ w' = W
  g8 : ∀ W, w.grownBy W none → Calls Try.prog 25 #[.slice (some ⟨g, off + 8, none⟩) 4 (cap - 8)] W fun e w' => e = .returned (.int .u64 (getB b 8 4)) ∧ w' = W
  g12 : ∀ W, w.grownBy W none → Calls Try.prog 25 #[.slice (some ⟨g, off + 12, none⟩) 4 (cap - 12)] W fun e w' => e = .returned (.int .u64 (getB b 12 4)) ∧ w' = W
  g16 : ∀ W, w.grownBy W none → Calls Try.prog 25 #[.slice (some ⟨g, off + 16, none⟩) 8 (cap - 16)] W fun e w' => e = .returned (.int .u64 (getB b 16 8)) ∧ w' = W
theorem rdH_of (hB : Bu w (some ⟨g, off, none⟩) len cap b) (h : 24 ≤ len) : RdH w g off len cap b := by
  have hn := hB.n
  have g1 : ∀ i (hi : i < b.length), b.getD i 0 = b[i] := fun i hi => by rw [List.getD_eq_getElem?_getD, List.getElem?_eq_getElem hi]; rfl
  have cc : ∀ i, i < 24 → ∀ W, w.grownBy W none → W.cell? ⟨g, off + i, none⟩ = some (.int .u8 ((b.getD i 0).toNat : Int)) := fun i hi W hg => by
    have := first_byte (hB.on (below_gr hg)) i (by omega)
    rw [← g1 i (by omega)] at this
    exact this
  have gg : ∀ i n, i + n ≤ 24 → ∀ W, w.grownBy W none → Calls Try.prog 25 #[.slice (some ⟨g, off + i, none⟩) n (cap - i)] W fun e w' => e = .returned (.int .u64 (getB b i n)) ∧ w' = W := fun i n hi W hg =>
    bget_any ((hB.on (below_gr hg)).part i n (by omega)) (by omega)
  exact ⟨fun W hg => cc 0 (by decide) W hg, cc 1 (by decide), cc 4 (by decide), gg 2 2 (by decide), gg 6 2 (by decide), gg 8 4 (by decide), gg 12 4 (by decide), gg 16 8 (by decide)⟩
set_option maxRecDepth 100000 in
set_option maxHeartbeats 8000000 in
theorem rread_short {a : Option Addr} (h : len < 24) : Calls Try.prog 15 #[.slice a len cap] w fun e w' => RdA noA w e w' := by
  have h1 : (len : Int) < 24 := by omega
  obtain ⟨V, hV⟩ : ∃ V, V = w.alloc (.cells (avC noA none 0 none 0 none 0) 42) := ⟨_, rfl⟩
  obtain ⟨B, hBB⟩ : ∃ B, B = w.heap.size := ⟨_, rfl⟩
  have gV : w.grownBy V none := by rw [hV]; exact World.grownBy_alloc _ _ _
  have rV : V.heap[B]? = some (.cells (avC noA none 0 none 0 none 0) 42 (0, 0)) := by rw [hV, hBB]; exact World.alloc_heap_new w _
  obtain ⟨W9, e9, r9, g9⟩ := av_in w V B (avC noA none 0 none 0 none 0) (avC noA none 0 none 0 none 0) rV (by omega) gV
  simp only [avC, noA, List.length_nil] at hV
  replace rV := hide rV
  replace e9 := hide e9
  clear h gV
  go_enter Try.func15, Try.ntmps15
  go_upto_region 1 with fail
  rw [← hV, ← hBB]
  clear hV hBB
  go_wp2_with (refine wpList_store_row rfl 42 _ _ rfl B (avC noA none 0 none 0 none 0) rfl rfl _ _ rV.out (av_size _ _ _ _ _ _ _) rfl (av_one _ _ _ _ _ _ _) ?_; rw [e9.out])
  exact rdA_ret (g := B) (a := noA) rfl r9 rfl (bu_zero _) (bu_zero _) (bu_zero _) g9
set_option maxRecDepth 100000 in
set_option maxHeartbeats 8000000 in
theorem rread_no (hB : Bu w (some ⟨g, off, none⟩) len cap b) (h : 24 ≤ len) (hr : ¬ readP b) : Calls Try.prog 15 #[.slice (some ⟨g, off, none⟩) len cap] w fun e w' => RdA noA w e w' := by
  have hn := hB.n
  have hc := hB.c
  obtain ⟨c0, c1, c4, g2, _, g8, _, _⟩ := rdH_of hB h
  have l0 := (numB_bd ((b.drop 8).take 4)).1
  have l1 := numB_four (l := (b.drop 8).take 4) (by rw [List.length_take, List.length_drop]; omega)
  have k0 := (numB_bd ((b.drop 2).take 2)).1
  have k1 := numB_two (l := (b.drop 2).take 2) (by rw [List.length_take, List.length_drop]; omega)
  have eL : getB b 8 4 = numB ((b.drop 8).take 4) := rfl
  have eK : getB b 2 2 = numB ((b.drop 2).take 2) := rfl
  rw [← eL] at l0 l1
  rw [← eK] at k0 k1
  have x0 : 0 ≤ by4 b := Int.natCast_nonneg _
  have x1 : by4 b ≤ 255 := by have := UInt8.toNat_lt (b.getD 4 0); unfold by4; omega
  have hw : ¬ ((b.getD 0 0).toNat : Int) = 129 ∨ ((b.getD 0 0).toNat : Int) = 129 ∧ (1048576 : Int) ≤ getB b 8 4 ∨ ((b.getD 0 0).toNat : Int) = 129 ∧ ¬ (1048576 : Int) ≤ getB b 8 4 ∧ (len : Int) < 24 + getB b 8 4 ∨ ((b.getD 0 0).toNat : Int) = 129 ∧ ¬ (1048576 : Int) ≤ getB b 8 4 ∧ ¬ (len : Int) < 24 + getB b 8 4 ∧ getB b 8 4 < by4 b + getB b 2 2 := by
    unfold readP at hr
    omega
  have z1 : ¬ (len : Int) < 24 := by omega
  have z2 : (0 : Int) < (len : Int) := by omega
  have z3 : (4 : Int) < (len : Int) := by omega
  have d4 : (4 : Int) ≤ (cap : Int) := by omega
  have d12 : (12 : Int) ≤ (cap : Int) := by omega
  have m2 : ¬ cap = 2 := by omega
  have m8 : ¬ cap = 8 := by omega
  have i1 := i64_id l0 l1
  have i2 := i64_id k0 (by omega)
  have i3 := i64_id x0 (by omega)
  have i4 := w64_idA (z := 24 + getB b 8 4) (by omega) (by omega)
  have i5 := w64_idA (z := by4 b + getB b 2 2) (by omega) (by omega)
  obtain ⟨V, hV⟩ : ∃ V, V = w.alloc (.cells (avC noA none 0 none 0 none 0) 42) := ⟨_, rfl⟩
  obtain ⟨B, hBB⟩ : ∃ B, B = w.heap.size := ⟨_, rfl⟩
  have gV : w.grownBy V none := by rw [hV]; exact World.grownBy_alloc _ _ _
  have rV : V.heap[B]? = some (.cells (avC noA none 0 none 0 none 0) 42 (0, 0)) := by rw [hV, hBB]; exact World.alloc_heap_new w _
  obtain ⟨W9, e9, r9, g9⟩ := av_in w V B (avC noA none 0 none 0 none 0) (avC noA none 0 none 0 none 0) rV (Nat.le_of_eq hBB.symm) gV
  have a0 := c0 V gV
  have a4 := c4 V gV
  have G2 := hide (g2 V gV)
  have G8 := hide (g8 V gV)
  simp only [avC, noA, List.length_nil] at hV
  replace rV := hide rV
  replace e9 := hide e9
  replace r9 := hide r9
  replace g9 := hide g9
  generalize by4 b = x at *
  generalize getB b 2 2 = k at *
  generalize getB b 8 4 = l at *
  generalize ((b.getD 0 0).toNat : Int) = z at *
  clear h gV hr hB hn hc c0 c1 c4 g2 g8 l0 l1 k0 k1 x0 x1 eL eK
  rcases hw with h1 | ⟨h1, h2⟩ | ⟨h1, h2, h3⟩ | ⟨h1, h2, h3, h4⟩
  rotate_left 1
  all_goals try subst h1
  all_goals
    go_enter Try.func15, Try.ntmps15
    go_upto_region 1 with fail
    rw [← hV, ← hBB]
    clear hV hBB
    have N1 : Hid (w = w) := rfl
    go_wp2_with (first
      | (have t := N1; clear t; go_at_call 25; refine G2.out.mono ?_; rintro e w2 ⟨rfl, hw2⟩; rw [hw2]; clear hw2 N1)
      | (go_at_call 25; refine G8.out.mono ?_; rintro e w3 ⟨rfl, hw3⟩; rw [hw3]; clear hw3)
      | (refine wpList_store_row rfl 42 _ _ rfl B (avC noA none 0 none 0 none 0) rfl rfl _ _ rV.out (av_size _ _ _ _ _ _ _) rfl (av_one _ _ _ _ _ _ _) ?_; rw [e9.out]))
    exact rdA_ret (g := B) (a := noA) rfl r9.out rfl (bu_zero _) (bu_zero _) (bu_zero _) g9.out
set_option maxRecDepth 100000 in
set_option maxHeartbeats 8000000 in
theorem rread_yes (hB : Bu w (some ⟨g, off, none⟩) len cap b) (hr : readP b) {x k v : Nat} (hx : by4 b = (x : Int)) (hk : getB b 2 2 = (k : Int)) (hl : getB b 8 4 = ((x + k + v : Nat) : Int)) : Calls Try.prog 15 #[.slice (some ⟨g, off, none⟩) len cap] w fun e w' => RdA (readV b x k v) w e w' := by
  have hn := hB.n
  have hc := hB.c
  obtain ⟨h24, h129, h20, hfit, hsum⟩ := hr
  rw [hn] at h24 hfit
  rw [hl] at h20 hfit hsum
  obtain ⟨c0, c1, c4, g2, g6, g8, g12, g16⟩ := rdH_of hB h24
  rw [hk] at g2
  rw [hl] at g8
  rw [hx] at c4
  rw [h129] at c0
  have x1 : x ≤ 255 := by have := UInt8.toNat_lt (b.getD 4 0); unfold by4 at hx; omega
  have k1 : k ≤ 65535 := by have := numB_two (l := (b.drop 2).take 2) (by rw [List.length_take, List.length_drop]; omega); unfold getB at hk; omega
  have y0 := (numB_bd ((b.drop 6).take 2)).1
  have y1 := numB_two (l := (b.drop 6).take 2) (by rw [List.length_take, List.length_drop]; omega)
  have o0 := (numB_bd ((b.drop 12).take 4)).1
  have o1 := numB_four (l := (b.drop 12).take 4) (by rw [List.length_take, List.length_drop]; omega)
  have bb : 0 ≤ by1 b ∧ by1 b ≤ 255 := by have := UInt8.toNat_lt (b.getD 1 0); unfold by1; omega
  obtain ⟨ax, sx, bx⟩ := hB.sub (i := 24) (m := x) (by omega) 24 (24 + (x : Int)) rfl rfl
  obtain ⟨ak, sk, bk⟩ := hB.sub (i := 24 + x) (m := k) (by omega) (24 + (x : Int)) (24 + (x : Int) + (k : Int)) (by push_cast; rfl) (by push_cast; rfl)
  obtain ⟨l, hll⟩ : ∃ l : Int, l = ((x + k + v : Nat) : Int) := ⟨_, rfl⟩
  rw [← hll] at g8 h20 hfit hsum
  obtain ⟨av, sv, bv⟩ := hB.sub (i := 24 + x + k) (m := v) (by omega) (24 + (x : Int) + (k : Int)) (24 + l) (by push_cast; rfl) (by rw [hll]; push_cast; omega)
  have lx : (readV b x k v).x.length = x := by show ((b.drop 24).take x).length = x; rw [List.length_take, List.length_drop]; omega
  have lk : (readV b x k v).key.length = k := by show ((b.drop (24 + x)).take k).length = k; rw [List.length_take, List.length_drop]; omega
  have lv : (readV b x k v).v.length = v := by show ((b.drop (24 + x + k)).take v).length = v; rw [List.length_take, List.length_drop]; omega
  have HAV : Hid (avC (readV b x k v) ax (cap - 24) ak (cap - (24 + x)) av (cap - (24 + x + k)) = #[.int .i64 (by1 b), .int .u16 (getB b 6 2), .int .u32 (getB b 12 4), .int .u64 (getB b 16 8), .slice ax x (cap - 24), .slice ak k (cap - (24 + x)), .slice av v (cap - (24 + x + k)), .int .i64 (24 + l)]) := by
    show _ = _
    unfold avC
    rw [lx, lk, lv, hll]
    rfl
  have HBX := hide (fun (W : World) (hg : w.grownBy W none) => bx W (hB.on (below_gr hg)))
  have HBK := hide (fun (W : World) (hg : w.grownBy W none) => bk W (hB.on (below_gr hg)))
  have HBV := hide (fun (W : World) (hg : w.grownBy W none) => bv W (hB.on (below_gr hg)))
  have LX := hide lx
  have LK := hide lk
  have LV := hide lv
  have z1 : ¬ (len : Int) < 24 := by omega
  have z2 : (0 : Int) < (len : Int) := by omega
  have z3 : (4 : Int) < (len : Int) := by omega
  have z4 : (1 : Int) < (len : Int) := by omega
  have z5 : ¬ (1048576 : Int) ≤ l := by omega
  have z6 : ¬ (len : Int) < 24 + l := by omega
  have z7 : ¬ l < (x : Int) + (k : Int) := by omega
  have d4 : (4 : Int) ≤ (cap : Int) := by omega
  have d8 : (8 : Int) ≤ (cap : Int) := by omega
  have d12 : (12 : Int) ≤ (cap : Int) := by omega
  have d16 : (16 : Int) ≤ (cap : Int) := by omega
  have d24 : (24 : Int) ≤ (cap : Int) := by omega
  have m2 : ¬ cap = 2 := by omega
  have m6 : ¬ cap = 6 := by omega
  have m8 : ¬ cap = 8 := by omega
  have m12 : ¬ cap = 12 := by omega
  have m16 : ¬ cap = 16 := by omega
  have q0 : 0 ≤ l := by omega
  have q1 : l < 4294967296 := by omega
  have q2 : 0 ≤ 24 + l := by omega
  have q3 : 24 + l < 8589934592 := by omega
  have q4 : (0 : Int) ≤ (x : Int) + (k : Int) := by omega
  have q5 : (x : Int) + (k : Int) < 8589934592 := by omega
  have q6 : (x : Int) < 4294967296 := by omega
  have q7 : (k : Int) < 4294967296 := by omega
  have q8 : 0 ≤ 24 + (x : Int) ∧ 24 + (x : Int) < 4294967296 := by omega
  have q9 : 0 ≤ 24 + (x : Int) + (k : Int) ∧ 24 + (x : Int) + (k : Int) < 4294967296 := by omega
  have qa : 24 + l < 4294967296 := by omega
  have qb : by1 b < 4294967296 := by omega
  have i1 := i64_id q0 q1
  have i2 := i64_id (Int.natCast_nonneg k) q7
  have i3 := i64_id (Int.natCast_nonneg x) q6
  have i4 := w64_idA q2 q3
  have i5 := w64_idA q4 q5
  have i6 := u16_idA y0 y1
  have i7 := u32_id o0 o1
  have i8 := i64_id bb.1 qb
  have e7 := hide (i64_id q8.1 q8.2)
  have e8 := hide (i64_id q9.1 q9.2)
  have e9 := hide (i64_id q2 qa)
  change IntKind.u16.wrap (getB b 6 2) = getB b 6 2 at i6
  change IntKind.u32.wrap (getB b 12 4) = getB b 12 4 at i7
  obtain ⟨V, hV⟩ : ∃ V, V = w.alloc (.cells (avC noA none 0 none 0 none 0) 42) := ⟨_, rfl⟩
  obtain ⟨B, hBB⟩ : ∃ B, B = w.heap.size := ⟨_, rfl⟩
  have gV : w.grownBy V none := by rw [hV]; exact World.grownBy_alloc _ _ _
  have rV : V.heap[B]? = some (.cells (avC noA none 0 none 0 none 0) 42 (0, 0)) := by rw [hV, hBB]; exact World.alloc_heap_new w _
  have lV := hide (Array.getElem?_eq_some_iff.1 rV).1
  have HWB := hide (Nat.le_of_eq hBB.symm : w.heap.size ≤ B)
  have a0 := c0 V gV
  have a4 := c4 V gV
  have G2 := hide (g2 V gV)
  have G8 := hide (g8 V gV)
  have HB1 := hide (fun (W : World) (hg : V.grownBy W none) => c1 W (gr_trans gV hg))
  have G6 := hide (fun (W : World) (hg : V.grownBy W none) => g6 W (gr_trans gV hg))
  have G12 := hide (fun (W : World) (hg : V.grownBy W none) => g12 W (gr_trans gV hg))
  have G16 := hide (fun (W : World) (hg : V.grownBy W none) => g16 W (gr_trans gV hg))
  simp only [avC, noA, List.length_nil] at hV
  replace rV := hide rV
  replace gV := hide gV
  clear hB hn hc c0 c1 c4 g2 g6 g8 g12 g16 hx hk hl h24 h129 h20 hfit hsum hll x1 k1 y0 y1 o0 o1 bb bx bk bv lx lk lv q0 q1 q2 q3 q4 q5 q6 q7 q8 q9 qa qb
  go_enter Try.func15, Try.ntmps15
  go_upto_region 1 with fail
  rw [← hV, ← hBB]
  clear hV hBB
  have N1 : Hid (w = w) := rfl
  go_wp2_with (first
    | (have t := N1; clear t; go_at_call 25; refine G2.out.mono ?_; rintro e w2 ⟨rfl, hw2⟩; rw [hw2]; clear hw2 N1)
    | (go_at_call 25; refine G8.out.mono ?_; rintro e w3 ⟨rfl, hw3⟩; rw [hw3]; clear hw3))
  clear a0 a4
  refine region_ctail (C := fun W' => V.grownBy W' none) 38 (by kernel_rfl) (by simp) (by kernel_rfl) (gr_of_below (Below.drew (Below.refl _ _))) ?_
  simp only [List.take_succ_cons, List.take_zero, List.drop_succ_cons, List.drop_zero]
  refine class_put (a' := ?fr1) (.slice (some ⟨g, off, none⟩) len cap) rfl (fun W hC => by unfold Oper.quietAt; go_simp) (by simp only [Act.put, List.setIfInBounds_toArray, List.set_cons_zero, List.set_cons_succ]; rfl) ?nx1
  refine class_put (a' := ?fr2) (.pointer (some ⟨g, off + 1, none⟩)) rfl (fun W hC => by unfold Oper.quietAt; go_simp) (by simp only [Act.put, List.setIfInBounds_toArray, List.set_cons_zero, List.set_cons_succ]; rfl) ?nx2
  refine class_put (a' := ?fr3) (.int .u8 (by1 b)) rfl (fun W hC => by have c1 := HB1.out W hC; unfold Oper.quietAt; go_simp) (by simp only [Act.put, List.setIfInBounds_toArray, List.set_cons_zero, List.set_cons_succ]; rfl) ?nx3
  refine class_put (a' := ?fr4) (.int .i64 (by1 b)) rfl (fun W hC => by unfold Oper.quietAt; go_simp) (by simp only [Act.put, List.setIfInBounds_toArray, List.set_cons_zero, List.set_cons_succ]; rfl) ?nx4
  refine class_put (a' := ?fr5) (.slice (some ⟨g, off, none⟩) len cap) rfl (fun W hC => by unfold Oper.quietAt; go_simp) (by simp only [Act.put, List.setIfInBounds_toArray, List.set_cons_zero, List.set_cons_succ]; rfl) ?nx5
  refine class_put (a' := ?fr6) (.slice (some ⟨g, off + 6, none⟩) 2 (cap - 6)) rfl (fun W hC => by unfold Oper.quietAt; go_simp) (by simp only [Act.put, List.setIfInBounds_toArray, List.set_cons_zero, List.set_cons_succ]; rfl) ?nx6
  refine class_put (a' := ?fr7) (.int .u64 (getB b 6 2)) rfl (fun W hC => by unfold Oper.quietAt; go_simp; exact (G6.out W hC).mono fun e w' h => ⟨h.1, h.2 ▸ hC⟩) (by simp only [Act.put, List.setIfInBounds_toArray, List.set_cons_zero, List.set_cons_succ]; rfl) ?nx7
  refine class_put (a' := ?fr8) (.int .u16 (getB b 6 2)) rfl (fun W hC => by unfold Oper.quietAt; go_simp) (by simp only [Act.put, List.setIfInBounds_toArray, List.set_cons_zero, List.set_cons_succ]; rfl) ?nx8
  refine class_put (a' := ?fr9) (.slice (some ⟨g, off, none⟩) len cap) rfl (fun W hC => by unfold Oper.quietAt; go_simp) (by simp only [Act.put, List.setIfInBounds_toArray, List.set_cons_zero, List.set_cons_succ]; rfl) ?nx9
  refine class_put (a' := ?fr10) (.slice (some ⟨g, off + 12, none⟩) 4 (cap - 12)) rfl (fun W hC => by unfold Oper.quietAt; go_simp) (by simp only [Act.put, List.setIfInBounds_toArray, List.set_cons_zero, List.set_cons_succ]; rfl) ?nx10
  refine class_put (a' := ?fr11) (.int .u64 (getB b 12 4)) rfl (fun W hC => by unfold Oper.quietAt; go_simp; exact (G12.out W hC).mono fun e w' h => ⟨h.1, h.2 ▸ hC⟩) (by simp only [Act.put, List.setIfInBounds_toArray, List.set_cons_zero, List.set_cons_succ]; rfl) ?nx11
  refine class_put (a' := ?fr12) (.int .u32 (getB b 12 4)) rfl (fun W hC => by unfold Oper.quietAt; go_simp) (by simp only [Act.put, List.setIfInBounds_toArray, List.set_cons_zero, List.set_cons_succ]; rfl) ?nx12
  refine class_put (a' := ?fr13) (.slice (some ⟨g, off, none⟩) len cap) rfl (fun W hC => by unfold Oper.quietAt; go_simp) (by simp only [Act.put, List.setIfInBounds_toArray, List.set_cons_zero, List.set_cons_succ]; rfl) ?nx13
  refine class_put (a' := ?fr14) (.slice (some ⟨g, off + 16, none⟩) 8 (cap - 16)) rfl (fun W hC => by unfold Oper.quietAt; go_simp) (by simp only [Act.put, List.setIfInBounds_toArray, List.set_cons_zero, List.set_cons_succ]; rfl) ?nx14
  refine class_put (a' := ?fr15) (.int .u64 (getB b 16 8)) rfl (fun W hC => by unfold Oper.quietAt; go_simp; exact (G16.out W hC).mono fun e w' h => ⟨h.1, h.2 ▸ hC⟩) (by simp only [Act.put, List.setIfInBounds_toArray, List.set_cons_zero, List.set_cons_succ]; rfl) ?nx15
  refine class_put (a' := ?fr16) (.slice (some ⟨g, off, none⟩) len cap) rfl (fun W hC => by unfold Oper.quietAt; go_simp) (by simp only [Act.put, List.setIfInBounds_toArray, List.set_cons_zero, List.set_cons_succ]; rfl) ?nx16
  refine class_put (a' := ?fr17) (.int .i64 (x : Int)) rfl (fun W hC => by unfold Oper.quietAt; go_simp) (by simp only [Act.put, List.setIfInBounds_toArray, List.set_cons_zero, List.set_cons_succ]; rfl) ?nx17
  refine class_put (a' := ?fr18) (.int .i64 (24 + (x : Int))) rfl (fun W hC => by unfold Oper.quietAt; go_simp; exact e7.out) (by simp only [Act.put, List.setIfInBounds_toArray, List.set_cons_zero, List.set_cons_succ]; rfl) ?nx18
  refine class_put (a' := ?fr19) (.slice ax x (cap - 24)) rfl (fun W hC => by exact sub_quiet (sx W)) (by simp only [Act.put, List.setIfInBounds_toArray, List.set_cons_zero, List.set_cons_succ]; rfl) ?nx19
  refine class_put (a' := ?fr20) (.slice (some ⟨g, off, none⟩) len cap) rfl (fun W hC => by unfold Oper.quietAt; go_simp) (by simp only [Act.put, List.setIfInBounds_toArray, List.set_cons_zero, List.set_cons_succ]; rfl) ?nx20
  refine class_put (a' := ?fr21) (.int .i64 (x : Int)) rfl (fun W hC => by unfold Oper.quietAt; go_simp) (by simp only [Act.put, List.setIfInBounds_toArray, List.set_cons_zero, List.set_cons_succ]; rfl) ?nx21
  refine class_put (a' := ?fr22) (.int .i64 (24 + (x : Int))) rfl (fun W hC => by unfold Oper.quietAt; go_simp; exact e7.out) (by simp only [Act.put, List.setIfInBounds_toArray, List.set_cons_zero, List.set_cons_succ]; rfl) ?nx22
  refine class_put (a' := ?fr23) (.int .i64 (x : Int)) rfl (fun W hC => by unfold Oper.quietAt; go_simp) (by simp only [Act.put, List.setIfInBounds_toArray, List.set_cons_zero, List.set_cons_succ]; rfl) ?nx23
  refine class_put (a' := ?fr24) (.int .i64 (24 + (x : Int))) rfl (fun W hC => by unfold Oper.quietAt; go_simp; exact e7.out) (by simp only [Act.put, List.setIfInBounds_toArray, List.set_cons_zero, List.set_cons_succ]; rfl) ?nx24
  refine class_put (a' := ?fr25) (.int .i64 (k : Int)) rfl (fun W hC => by unfold Oper.quietAt; go_simp) (by simp only [Act.put, List.setIfInBounds_toArray, List.set_cons_zero, List.set_cons_succ]; rfl) ?nx25
  refine class_put (a' := ?fr26) (.int .i64 (24 + (x : Int) + (k : Int))) rfl (fun W hC => by unfold Oper.quietAt; go_simp; exact e8.out) (by simp only [Act.put, List.setIfInBounds_toArray, List.set_cons_zero, List.set_cons_succ]; rfl) ?nx26
  refine class_put (a' := ?fr27) (.slice ak k (cap - (24 + x))) rfl (fun W hC => by exact sub_quiet (sk W)) (by simp only [Act.put, List.setIfInBounds_toArray, List.set_cons_zero, List.set_cons_succ]; rfl) ?nx27
  refine class_put (a' := ?fr28) (.slice (some ⟨g, off, none⟩) len cap) rfl (fun W hC => by unfold Oper.quietAt; go_simp) (by simp only [Act.put, List.setIfInBounds_toArray, List.set_cons_zero, List.set_cons_succ]; rfl) ?nx28
  refine class_put (a' := ?fr29) (.int .i64 (x : Int)) rfl (fun W hC => by unfold Oper.quietAt; go_simp) (by simp only [Act.put, List.setIfInBounds_toArray, List.set_cons_zero, List.set_cons_succ]; rfl) ?nx29
  refine class_put (a' := ?fr30) (.int .i64 (24 + (x : Int))) rfl (fun W hC => by unfold Oper.quietAt; go_simp; exact e7.out) (by simp only [Act.put, List.setIfInBounds_toArray, List.set_cons_zero, List.set_cons_succ]; rfl) ?nx30
  refine class_put (a' := ?fr31) (.int .i64 (k : Int)) rfl (fun W hC => by unfold Oper.quietAt; go_simp) (by simp only [Act.put, List.setIfInBounds_toArray, List.set_cons_zero, List.set_cons_succ]; rfl) ?nx31
  refine class_put (a' := ?fr32) (.int .i64 (24 + (x : Int) + (k : Int))) rfl (fun W hC => by unfold Oper.quietAt; go_simp; exact e8.out) (by simp only [Act.put, List.setIfInBounds_toArray, List.set_cons_zero, List.set_cons_succ]; rfl) ?nx32
  refine class_put (a' := ?fr33) (.int .i64 l) rfl (fun W hC => by unfold Oper.quietAt; go_simp) (by simp only [Act.put, List.setIfInBounds_toArray, List.set_cons_zero, List.set_cons_succ]; rfl) ?nx33
  refine class_put (a' := ?fr34) (.int .i64 (24 + l)) rfl (fun W hC => by unfold Oper.quietAt; go_simp; exact e9.out) (by simp only [Act.put, List.setIfInBounds_toArray, List.set_cons_zero, List.set_cons_succ]; rfl) ?nx34
  refine class_put (a' := ?fr35) (.slice av v (cap - (24 + x + k))) rfl (fun W hC => by exact sub_quiet (sv W)) (by simp only [Act.put, List.setIfInBounds_toArray, List.set_cons_zero, List.set_cons_succ]; rfl) ?nx35
  refine class_put (a' := ?fr36) (.int .i64 l) rfl (fun W hC => by unfold Oper.quietAt; go_simp) (by simp only [Act.put, List.setIfInBounds_toArray, List.set_cons_zero, List.set_cons_succ]; rfl) ?nx36
  refine class_put (a' := ?fr37) (.int .i64 (24 + l)) rfl (fun W hC => by unfold Oper.quietAt; go_simp; exact e9.out) (by simp only [Act.put, List.setIfInBounds_toArray, List.set_cons_zero, List.set_cons_succ]; rfl) ?nx37
  refine class_put (a' := ?fr38) (.agg (avC (readV b x k v) ax (cap - 24) ak (cap - (24 + x)) av (cap - (24 + x + k)))) rfl (fun W hC => by rw [HAV.out]; unfold Oper.quietAt; go_simp) (by simp only [Act.put, List.setIfInBounds_toArray, List.set_cons_zero, List.set_cons_succ]; rfl) ?nx38
  refine wpQuiet_nil ?_
  intro W2 B2
  obtain ⟨W9, e9_, r9, g9⟩ := av_in w W2 B (avC noA none 0 none 0 none 0) (avC (readV b x k v) ax (cap - 24) ak (cap - (24 + x)) av (cap - (24 + x + k))) ((B2.block B lV.out (by simp)).trans rV.out) HWB.out (gr_trans gV.out B2)
  have nB := hide ((B2.block B lV.out (by simp)).trans rV.out)
  replace e9_ := hide e9_
  replace r9 := hide r9
  replace g9 := hide g9
  clear B2
  refine wpList_store_row rfl 42 _ _ rfl B (avC (readV b x k v) ax (cap - 24) ak (cap - (24 + x)) av (cap - (24 + x + k))) rfl rfl _ _ nB.out (av_size _ _ _ _ _ _ _) rfl (av_one _ _ _ _ _ _ _) ?_
  rw [e9_.out]
  go_wp2
  exact rdA_ret (g := B) (a := readV b x k v) rfl r9.out rfl (by rw [LX.out]; exact HBX.out _ g9.out) (by rw [LK.out]; exact HBK.out _ g9.out) (by rw [LV.out]; exact HBV.out _ g9.out) g9.out
end
/-- The document's own Read. -/
theorem rread_any {w : World} {a : Option Addr} {len cap : Nat} {b : List UInt8} (h : Bu w a len cap b) {v : Av} (hv : ReadsA b v) : Calls Try.prog 15 #[.slice a len cap] w fun e w' => RdA v w e w' := by
  have hn := h.n
  by_cases h24 : len < 24
  · rcases hv with ⟨_, rfl⟩ | ⟨⟨h1, _⟩, _⟩
    · exact rread_short h24
    · omega
  · obtain ⟨g, off, rfl⟩ : ∃ g off, a = some ⟨g, off, none⟩ := by
      rcases h.b with ⟨h1, _, _⟩ | ⟨g, off, r⟩
      · omega
      · exact ⟨g, off, r.at_⟩
    rcases hv with ⟨h1, rfl⟩ | ⟨h1, x, k, v, e1, e2, e3, rfl⟩
    · exact rread_no h (by omega) h1
    · exact rread_yes h h1 e1 e2 e3
end Go.Proofs.Ytaafkefgpgoepaa
