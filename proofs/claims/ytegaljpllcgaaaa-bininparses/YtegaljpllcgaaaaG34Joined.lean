/- The document's own requests of the binary dialect: what they are, and the first bytes that are none. Conditions: at most 5000 bytes. The document's own requests of the binary dialect: bytes that are not yet one. Conditions: none. The document's own requests of the binary dialect: those that are none, by their heads. Conditions: none. The document's own requests of the binary dialect: what a request is made of. Conditions: none. The document's own requests of the binary dialect: a request, and what its walk shares. Conditions: none. The document's own requests of the binary dialect: what the walk of a request carries. Conditions: none. -/
import Derived.Test.YtegaljpllcgaaaaBinCmd
import Derived.Test.YtegaljpllcgaaaaBinFault
import Derived.Test.YtegaljpllcgaaaaBinStE
import Derived.Test.YtegaljpllcgaaaaBinOfE
import Derived.Test.YtegaljpllcgaaaaSetRow
import Derived.Test.YtegaljpllcgaaaaFrameRefK
namespace Go.Proofs.Ytegaljpllcgaaaa
set_option linter.unusedVariables false
open Go.RowKit

section
variable {w : World} {a : Option Addr} {g off len cap : Nat} {b : List UInt8}
set_option maxRecDepth 100000 in
set_option maxHeartbeats 4000000 in
theorem bin_empty : Calls Try.prog 12 #[.slice a 0 cap] w fun e w' => BinE (bareB 3) w e w' := by
  go_enter Try.func12, Try.ntmps12
  go_wp2
  refine binE_ret (g := w.heap.size) (ca := none) (cc := 0) (ta := none) (tc := 0) (ka := none) (kc := 0) rfl (World.alloc_heap_new w _) rfl (QAt.none_ _) (World.grownBy_alloc _ _ none)
set_option maxRecDepth 100000 in
set_option maxHeartbeats 4000000 in
theorem bin_other (hB : Bu w (some ⟨g, off, none⟩) len cap b) (h0 : 0 < b.length) (h1 : ¬ ((b[0]).toNat : Int) = 128) : Calls Try.prog 12 #[.slice (some ⟨g, off, none⟩) len cap] w fun e w' => BinE (bareB 9) w e w' := by
  have c0 := first_byte (hB.alloc (.cells (stC noS none 0 none 0 none 0) 34)) 0 h0
  rw [Nat.add_zero] at c0
  have hn := hB.n
  have l0 : ((len : Int) == 0) = false := by rw [beq_eq_false_iff_ne]; omega
  have l1 : (0 : Int) < (len : Int) := by omega
  generalize ((b[0]).toNat : Int) = y at *
  have z : (y == 128) = false := by rw [beq_eq_false_iff_ne]; exact h1
  have zn : (y != 128) = true := by simpa using h1
  simp only [stC, noS, noQ, noF, List.length_nil] at c0
  clear h1 hB hn h0
  go_enter Try.func12, Try.ntmps12
  go_wp2
  refine binE_ret (g := w.heap.size) (ca := none) (cc := 0) (ta := none) (tc := 0) (ka := none) (kc := 0) rfl (World.alloc_heap_new w _) rfl (QAt.none_ _) (World.grownBy_alloc _ _ none)
end
end Go.Proofs.Ytegaljpllcgaaaa

namespace Go.Proofs.Ytegaljpllcgaaaa
set_option linter.unusedVariables false
open Go.RowKit

section
variable {w : World} {a : Option Addr} {g off len cap : Nat} {b : List UInt8}
set_option maxRecDepth 100000 in
set_option maxHeartbeats 4000000 in
theorem bin_short (hB : Bu w (some ⟨g, off, none⟩) len cap b) (h0 : 0 < b.length) (h1 : ((b[0]).toNat : Int) = 128) (h2 : len < 24) : Calls Try.prog 12 #[.slice (some ⟨g, off, none⟩) len cap] w fun e w' => BinE (bareB 3) w e w' := by
  have c0 := first_byte (hB.alloc (.cells (stC noS none 0 none 0 none 0) 34)) 0 h0
  rw [Nat.add_zero, h1] at c0
  have hn := hB.n
  have hc := hB.c
  have l0 : ((len : Int) == 0) = false := by rw [beq_eq_false_iff_ne]; omega
  have l1 : (0 : Int) < (len : Int) := by omega
  have l2 : (len : Int) < 24 := by omega
  simp only [stC, noS, noQ, noF, List.length_nil] at c0
  clear h1 hB hn h0 hc h2
  go_enter Try.func12, Try.ntmps12
  go_wp2
  refine binE_ret (g := w.heap.size) (ca := none) (cc := 0) (ta := none) (tc := 0) (ka := none) (kc := 0) rfl (World.alloc_heap_new w _) rfl (QAt.none_ _) (World.grownBy_alloc _ _ none)
set_option maxRecDepth 100000 in
set_option maxHeartbeats 4000000 in
theorem bin_long (hB : Bu w (some ⟨g, off, none⟩) len cap b) (h0 : 0 < b.length) (h1 : ((b[0]).toNat : Int) = 128) (h2 : 24 ≤ len) (h3 : 2048 < getB b 8 4) : Calls Try.prog 12 #[.slice (some ⟨g, off, none⟩) len cap] w fun e w' => BinE (bareB 9) w e w' := by
  have c0 := first_byte (hB.alloc (.cells (stC noS none 0 none 0 none 0) 34)) 0 h0
  rw [Nat.add_zero, h1] at c0
  have hn := hB.n
  have hc := hB.c
  have l0 : ((len : Int) == 0) = false := by rw [beq_eq_false_iff_ne]; omega
  have l1 : (0 : Int) < (len : Int) := by omega
  have p1 := hB.part 8 4 (by omega)
  have c8 : (8 : Int) ≤ (cap : Int) := by omega
  have c12 : (12 : Int) ≤ (cap : Int) := by omega
  have n8 : ¬ cap = 8 := by omega
  have l2 : ¬ (len : Int) < 24 := by omega
  have H1 := hide (fun (W : World) (hg : w.grownBy W none) => bget_any (p1.on (below_gr hg)) (by decide))
  obtain ⟨y, hy⟩ : ∃ y, y = numB ((b.drop 8).take 4) := ⟨_, rfl⟩
  have y0 : 0 ≤ y := by rw [hy]; exact (numB_bd _).1
  rw [← hy] at H1
  have y1 : (2048 : Int) < y := by rw [hy]; exact h3
  simp only [stC, noS, noQ, noF, List.length_nil] at c0
  clear h1 hB hn h0 hc h2 h3 p1 hy
  go_enter Try.func12, Try.ntmps12
  go_wp2_with (go_at_call 22; refine (H1.out _ (World.grownBy_alloc _ _ none)).mono ?_; rintro e w2 ⟨rfl, rfl⟩)
  refine binE_ret (g := w.heap.size) (ca := none) (cc := 0) (ta := none) (tc := 0) (ka := none) (kc := 0) rfl (World.alloc_heap_new w _) rfl (QAt.none_ _) (World.grownBy_alloc _ _ none)
set_option maxRecDepth 100000 in
set_option maxHeartbeats 4000000 in
theorem bin_wait (hB : Bu w (some ⟨g, off, none⟩) len cap b) (h0 : 0 < b.length) (h1 : ((b[0]).toNat : Int) = 128) (h2 : 24 ≤ len) (h3 : getB b 8 4 ≤ 2048) (h4 : (len : Int) < 24 + getB b 8 4) : Calls Try.prog 12 #[.slice (some ⟨g, off, none⟩) len cap] w fun e w' => BinE (bareB 3) w e w' := by
  have c0 := first_byte (hB.alloc (.cells (stC noS none 0 none 0 none 0) 34)) 0 h0
  rw [Nat.add_zero, h1] at c0
  have hn := hB.n
  have hc := hB.c
  have l0 : ((len : Int) == 0) = false := by rw [beq_eq_false_iff_ne]; omega
  have l1 : (0 : Int) < (len : Int) := by omega
  have p1 := hB.part 8 4 (by omega)
  have c8 : (8 : Int) ≤ (cap : Int) := by omega
  have c12 : (12 : Int) ≤ (cap : Int) := by omega
  have n8 : ¬ cap = 8 := by omega
  have l2 : ¬ (len : Int) < 24 := by omega
  have H1 := hide (fun (W : World) (hg : w.grownBy W none) => bget_any (p1.on (below_gr hg)) (by decide))
  obtain ⟨y, hy⟩ : ∃ y, y = numB ((b.drop 8).take 4) := ⟨_, rfl⟩
  have y0 : 0 ≤ y := by rw [hy]; exact (numB_bd _).1
  rw [← hy] at H1
  have y1 : y ≤ (2048 : Int) := by rw [hy]; exact h3
  have y2 : (len : Int) < 24 + y := by rw [hy]; exact h4
  have e1 : wrap64 (24 + y) = 24 + y := by unfold wrap64; omega
  have e2 : IntKind.i64.wrap y = y := i64_id y0 (by omega)
  simp only [stC, noS, noQ, noF, List.length_nil] at c0
  clear h1 hB hn h0 hc h2 h3 h4 p1 hy
  go_enter Try.func12, Try.ntmps12
  go_wp2_with (go_at_call 22; refine (H1.out _ (World.grownBy_alloc _ _ none)).mono ?_; rintro e w2 ⟨rfl, rfl⟩)
  refine binE_ret (g := w.heap.size) (ca := none) (cc := 0) (ta := none) (tc := 0) (ka := none) (kc := 0) rfl (World.alloc_heap_new w _) rfl (QAt.none_ _) (World.grownBy_alloc _ _ none)
end
end Go.Proofs.Ytegaljpllcgaaaa

namespace Go.Proofs.Ytegaljpllcgaaaa
set_option linter.unusedVariables false
open Go.RowKit

theorem r5_one (r : R5) : (r5C r).all (·.oneCell') = true := by simp [r5C, Value.oneCell']
/-- A head's numbers. -/
structure HeadN (w : World) (g off len cap : Nat) (b : List UInt8) (c x l k o : Int) : Prop where
  n24 : 24 ≤ len
  c0 : 0 ≤ c
  c1 : c ≤ 255
  x0 : 0 ≤ x
  x1 : x ≤ 255
  l0 : 0 ≤ l
  l1 : l ≤ 2048
  k0 : 0 ≤ k
  k1 : k ≤ 65535
  o0 : 0 ≤ o
  o1 : o < 4294967296
  fit : 24 + l ≤ (len : Int)
  cap_ : len ≤ cap
  b0 : ∀ W, w.grownBy W none → W.cell? ⟨g, off, none⟩ = some (.int .u8 128)
  b1 : ∀ W, w.grownBy W none → W.cell? ⟨g, off + 1, none⟩ = some (.int .u8 c)
  b4 : ∀ W, w.grownBy W none → W.cell? ⟨g, off + 4, none⟩ = some (.int .u8 x)
  gl : ∀ W, w.grownBy W none → Calls Try.prog 22 #[.slice (some ⟨g, off + 8, none⟩) 4 (cap - 8)] W fun e w' => e = .returned (.int .u64 l) ∧ w' = W
  gk : ∀ W, w.grownBy W none → Calls Try.prog 22 #[.slice (some ⟨g, off + 2, none⟩) 2 (cap - 2)] W fun e w' => e = .returned (.int .u64 k) ∧ w' = W
  go_ : ∀ W, w.grownBy W none → Calls Try.prog 22 #[.slice (some ⟨g, off + 12, none⟩) 4 (cap - 12)] W fun e w' => e = .returned (.int .u64 o) ∧ w' = W
theorem head_of {w : World} {g off len cap : Nat} {b : List UInt8} (hB : Bu w (some ⟨g, off, none⟩) len cap b) (h24 : 24 ≤ b.length) (h1 : ((b[0]'(by omega)).toNat : Int) = 128) (h3 : getB b 8 4 ≤ 2048) (h4 : 24 + getB b 8 4 ≤ (len : Int)) :
    HeadN w g off len cap b ((b[1]'(by omega)).toNat : Int) ((b[4]'(by omega)).toNat : Int) (getB b 8 4) (getB b 2 2) (getB b 12 4) := by
  have hn := hB.n
  have p1 := hB.part 8 4 (by omega)
  have p2 := hB.part 2 2 (by omega)
  have p3 := hB.part 12 4 (by omega)
  have u1 := UInt8.toNat_lt (b[1]'(by omega))
  have u4 := UInt8.toNat_lt (b[4]'(by omega))
  refine ⟨by omega, by omega, by omega, by omega, by omega, (numB_bd _).1, h3, (numB_bd _).1, numB_two p2.n, (numB_bd _).1, numB_four p3.n, h4, hB.c, fun W hg => ?_, fun W hg => first_byte (hB.on (below_gr hg)) 1 (by omega), fun W hg => first_byte (hB.on (below_gr hg)) 4 (by omega), fun W hg => bget_any (p1.on (below_gr hg)) (by decide), fun W hg => bget_any (p2.on (below_gr hg)) (by decide), fun W hg => bget_any (p3.on (below_gr hg)) (by decide)⟩
  have := first_byte (hB.on (below_gr hg)) 0 (by omega)
  rw [Nat.add_zero, h1] at this
  exact this
section
variable {w : World} {g off len cap : Nat} {b : List UInt8} {c x l k o : Int}
set_option maxRecDepth 100000 in
set_option maxHeartbeats 4000000 in
theorem bin_fault (H : HeadN w g off len cap b c x l k o) (hs : statusN (ofN c) x k l ≠ 0) : Calls Try.prog 12 #[.slice (some ⟨g, off, none⟩) len cap] w fun e w' => BinE (faultB c (statusN (ofN c) x k l) o (24 + l)) w e w' := by
  obtain ⟨n24, c0, c1, x0, x1, l0, l1, k0, k1, o0, o1, fit, hcap, b0, b1, b4, gl, gk, go_⟩ := H
  have q0 : ((len : Int) == 0) = false := by rw [beq_eq_false_iff_ne]; omega
  have q1 : (0 : Int) < (len : Int) := by omega
  have q1b : (1 : Int) < (len : Int) := by omega
  have q4b : (4 : Int) < (len : Int) := by omega
  have q2 : ¬ (len : Int) < 24 := by omega
  have q3 : ¬ (len : Int) < 24 + l := by omega
  have q5 : ¬ (2048 : Int) < l := by omega
  have d8 : (8 : Int) ≤ (cap : Int) := by omega
  have d12 : (12 : Int) ≤ (cap : Int) := by omega
  have d2 : (2 : Int) ≤ (cap : Int) := by omega
  have d4 : (4 : Int) ≤ (cap : Int) := by omega
  have d16 : (16 : Int) ≤ (cap : Int) := by omega
  have m8 : ¬ cap = 8 := by omega
  have m2 : ¬ cap = 2 := by omega
  have m12 : ¬ cap = 12 := by omega
  have e1 : wrap64 (24 + l) = 24 + l := by unfold wrap64; omega
  have e2 : IntKind.i64.wrap l = l := i64_id l0 (by omega)
  have e3 : IntKind.i64.wrap k = k := i64_id k0 (by omega)
  have e4 : IntKind.u32.wrap o = o := u32_id o0 o1
  have e5 : IntKind.i64.wrap c = c := i64_id c0 (by omega)
  have e6 : IntKind.i64.wrap x = x := i64_id x0 (by omega)
  have HO := hide (fun W => of_any (w := W) c0 c1)
  have HS := hide (fun W => status_any (w := W) (r := ofN c) (x := x) (k := k) (l := l) ⟨x0, x1, k0, k1, l0, l1⟩ (ext_bd c))
  have HF := hide (fun W => fault_any (w := W) (c := c) (s := statusN (ofN c) x k l) (o := o) o0 o1)
  obtain ⟨V, hV⟩ : ∃ V, V = w.alloc (.cells (stC noS none 0 none 0 none 0) 34) := ⟨_, rfl⟩
  obtain ⟨B, hBB⟩ : ∃ B, B = w.heap.size := ⟨_, rfl⟩
  have gV : w.grownBy V none := by rw [hV]; exact World.grownBy_alloc _ _ _
  have rV : V.heap[B]? = some (.cells (stC noS none 0 none 0 none 0) 34 (0, 0)) := by rw [hV, hBB]; exact World.alloc_heap_new w _
  have lV : B < V.heap.size := (Array.getElem?_eq_some_iff.1 rV).1
  have t0 := b0 V gV
  have t1 := b1 V gV
  have t4 := b4 V gV
  have G1 := hide (gl V gV)
  have G2 := hide (gk V gV)
  have G3 := hide (go_ V gV)
  have HBw : Hid (w.heap.size = B) := hBB.symm
  generalize statusN (ofN c) x k l = S at *
  generalize ofN c = r at *
  have zS : (S == 0) = false := by rw [beq_eq_false_iff_ne]; exact hs
  have zSn : (S != 0) = true := by simpa using hs
  simp only [stC, noS, noQ, noF, List.length_nil] at hV
  replace gV := hide gV
  replace rV := hide rV
  replace lV := hide lV
  clear b0 b1 b4 gl gk go_ n24 c0 c1 x0 x1 k0 k1 o0 o1 fit hcap hs l1
  have N1 : Hid (w = w) := rfl
  go_enter Try.func12, Try.ntmps12
  go_upto_region 1 with fail
  rw [← hV, ← hBB]
  clear hV hBB
  go_wp2_with (first
    | (go_at_call 22; have t := N1; clear t; refine G1.out.mono ?_; rintro e w2 ⟨rfl, rfl⟩; clear N1; have N2 : Hid (w = w) := rfl)
    | (go_at_call 22; have t := N2; clear t; refine G2.out.mono ?_; rintro e w2 ⟨rfl, rfl⟩; clear N2; have N3 : Hid (w = w) := rfl)
    | (go_at_call 22; have t := N3; clear t; refine G3.out.mono ?_; rintro e w2 ⟨rfl, rfl⟩; clear N3)
    | (go_at_call 16; refine (HO.out _).mono ?_; rintro e w3 ⟨rfl, g3⟩; obtain ⟨W3, hW3⟩ : ∃ W3, W3 = w3.alloc (.cells (r5C r) 47) := ⟨_, rfl⟩; obtain ⟨P, hP⟩ : ∃ P, P = w3.heap.size := ⟨_, rfl⟩; have r3 : W3.heap[P]? = some (.cells (r5C r) 47 (0, 0)) := by rw [hW3, hP]; exact World.alloc_heap_new w3 _
       have k3 : w2.grownBy W3 none := gr_trans g3 (by rw [hW3]; exact World.grownBy_alloc _ _ _)
       replace hW3 := hide hW3; replace hP := hide hP; replace r3 := hide r3; replace k3 := hide k3; clear g3 t0 t1 t4)
    | (refine wpList_store_row rfl 47 _ _ rfl w3.heap.size (r5C r) rfl rfl _ _ (World.alloc_heap_new w3 _) (r5_size _) rfl (r5_one _) ?_; rw [setRow_alloc, ← hW3.out, ← hP.out])
    | (refine wpList_load_row rfl 47 _ rfl P rfl _ _ _ _ r3.out Try.underlying47 rfl (r5_size _) ?_)
    | (go_at_call 23; refine (HS.out _).mono ?_; rintro e w4 ⟨rfl, g4⟩; replace g4 := hide g4)
    | (go_at_call 24; refine (HF.out _).mono ?_; rintro e w5 ⟨rfl, g5⟩; have k5 := hide (gr_trans k3.out (gr_trans g4.out g5)); have r5 := hide ((k5.out.block B lV.out (by simp)).trans rV.out); clear g5)
    | (refine wpList_store_row rfl 34 _ _ rfl B (stC (faultB c S o (24 + l)) none 0 none 0 none 0) rfl rfl _ _ r5.out (step_size _ _ _ _ _ _ _) rfl (step_one _ _ _ _ _ _ _) ?_))
  refine binE_ret (g := B) (ca := none) (cc := 0) (ta := none) (tc := 0) (ka := none) (kc := 0) rfl (setRow_heap _ B _ _ _ _ r5.out) rfl (QAt.none_ _) ?_
  exact gr_new (row := none) (gr_trans gV.out k5.out) (⟨rfl, rfl, rfl, by simp, fun i _ hi => setRow_other _ B i _ (fun e => hi (by rw [e]))⟩ : _ ) (Nat.le_of_eq HBw.out)
end
end Go.Proofs.Ytegaljpllcgaaaa

namespace Go.Proofs.Ytegaljpllcgaaaa
set_option linter.unusedVariables false
open Go.RowKit

/-- 'b[i:j]' of bytes, as an equation of every world. -/
theorem Bu.sub {w : World} {g off len cap : Nat} {l : List UInt8} (h : Bu w (some ⟨g, off, none⟩) len cap l) {i m : Nat} (hm : i + m ≤ len) (zi zj : Int) (hi : zi = (i : Int)) (hj : zj = (i : Int) + (m : Int)) : ∃ a', (∀ W : World, (Instr.sliceAt 22 (.slice (some ⟨g, off, none⟩) len cap) (some (.int .i64 zi)) (some (.int .i64 zj)) none).run Try.prog W = .ok (.slice a' m (cap - i)) W) ∧
    ∀ W : World, Bu W (some ⟨g, off, none⟩) len cap l → Bu W a' m (cap - i) ((l.drop i).take m) := by
  have hc := h.c
  obtain ⟨j, hjj⟩ : ∃ j, j = i + m := ⟨_, rfl⟩
  obtain rfl : zj = (j : Int) := by omega
  subst hi
  have h1 : (j : Int) ≤ (cap : Int) := by omega
  have h2 : (i : Int) ≤ (j : Int) := by omega
  have h4 : j - i = m := by omega
  by_cases e : cap = i
  · obtain rfl : m = 0 := by omega
    refine ⟨some ⟨g, off, none⟩, fun W => ?_, fun W H => ⟨by simp, .inl ⟨rfl, by rw [List.take_zero]; rfl, fun _ => by omega⟩, by omega, by have := H.m; omega⟩⟩
    subst e
    obtain rfl : j = cap := by omega
    clear hj hjj
    go_simp
  · refine ⟨some ⟨g, off + i, none⟩, fun W => ?_, fun W H => H.part i m hm⟩
    clear hj hjj
    go_simp
section
variable {w : World} {r : R5} {m cap : Nat} {a : Option Addr} {x : List UInt8}
theorem Bu.some_ {w : World} {a : Option Addr} {len cap : Nat} {l : List UInt8} (h : Bu w a len cap l) (h0 : 0 < len) : ∃ g off, a = some ⟨g, off, none⟩ := by
  rcases h.b with ⟨h1, _, _⟩ | ⟨g, off, r⟩
  · omega
  · exact ⟨g, off, r.at_⟩
/-- The command of a row, with extras as many as the row says. -/
theorem cmd_any (hx : Bu w a m cap x) (h : m = 0 ∧ r.ext ≠ 8 ∧ r.ext ≠ 20 ∨ m = 4 ∧ r.ext ≠ 8 ∧ r.ext ≠ 20 ∨ m = 8 ∧ r.ext = 8 ∨ m = 20 ∧ r.ext = 20) : Calls Try.prog 25 #[.agg (r5C r), .slice a m cap] w fun e w' => CmdE (cmdB r x) w e w' := by
  have hn := hx.n
  rcases h with ⟨rfl, h8, h20⟩ | ⟨rfl, h8, h20⟩ | ⟨rfl, h8⟩ | ⟨rfl, h20⟩
  · obtain rfl : x = [] := List.eq_nil_of_length_eq_zero hn
    exact cmd_0 h8 h20 a cap
  · obtain ⟨g, off, rfl⟩ := hx.some_ (by decide)
    exact cmd_4 h8 h20 hx
  · obtain ⟨g, off, rfl⟩ := hx.some_ (by decide)
    exact cmd_8 h8 hx
  · obtain ⟨g, off, rfl⟩ := hx.some_ (by decide)
    by_cases hm : numB ((x.drop 16).take 4) = 4294967295
    · exact cmd_20n h20 hx hm
    · exact cmd_20y h20 hx hm
end
end Go.Proofs.Ytegaljpllcgaaaa

namespace Go.Proofs.Ytegaljpllcgaaaa
set_option linter.unusedVariables false
open Go.RowKit

section
variable {w w' W : World}
def zeroCq : Array Value := #[.int .i64 0, .string ⟨#[]⟩, .slice none 0 0, .int .u32 0, .int .i64 0, .int .u64 0, .int .u64 0, .int .u64 0, .bool false, .bool false]
theorem gr_drewB (w : World) (j : Nat) : w.grownBy (w.drewN j) none := ⟨rfl, rfl, rfl, Nat.le_refl _, fun _ _ _ => rfl⟩
theorem cellB {p : Addr} {v : Value} (hg : w.grownBy w' none) (h : w.cell? p = some v) : w'.cell? p = some v := ((below_gr hg).cell (World.block_lt_of_cell? w _ h)).trans h
theorem boxB {w5 : World} (w : World) (cs : Array Value) (t : TypeId) (g : w5.grownBy w none) : ∃ K w8, w.heap.size = K ∧ w.alloc (.cells cs t) = w8 ∧ w8.heap[K]? = some (.cells cs t (0, 0)) ∧ w5.heap.size ≤ K ∧ w5.grownBy w8 none :=
  ⟨_, _, rfl, rfl, World.alloc_heap_new _ _, g.size, gr_trans g (World.grownBy_alloc _ _ _)⟩
theorem rowB_in {w5 w8 : World} {K : Nat} {old : Array Value} {t : TypeId} (cs : Array Value) (n8 : w8.heap[K]? = some (.cells old t (0, 0))) (l8 : w5.heap.size ≤ K) (g8 : w5.grownBy w8 none) : ∃ w9, w9.heap[K]? = some (.cells cs t (0, 0)) ∧ w5.grownBy w9 none ∧ w8.setRow K cs = w9 :=
  ⟨_, setRow_heap w8 K old cs _ _ n8, ⟨g8.os, g8.tape, g8.output, by rw [size_setRow]; exact g8.size, fun k hk hn => (setRow_other w8 K k _ (by omega)).trans (g8.block k hk hn)⟩, rfl⟩
theorem grPutB {p j : Nat} (hg : w.grownBy W none) (hp : w.heap.size ≤ p) (v : Value) : w.grownBy (W.setCell ⟨p, j, none⟩ v) none :=
  ⟨hg.os, hg.tape, hg.output, by rw [World.size_setCell]; exact hg.size, fun k hk hn => (heap_setCell_other _ _ _ _ (show k ≠ p by omega)).trans (hg.block k hk hn)⟩
/-- One cell of a block of one's own is stored into. -/
theorem putB {w5 w8 : World} {K : Nat} {cs : Array Value} {t : TypeId} (j : Nat) (v : Value) (cs' : Array Value) (h' : cs.setIfInBounds j v = cs') (hj : j < cs.size) (n8 : w8.heap[K]? = some (.cells cs t (0, 0))) (l8 : w5.heap.size ≤ K) (g8 : w5.grownBy w8 none) :
    ∃ w9, w8.setCell ⟨K, j, none⟩ v = w9 ∧ w9.heap[K]? = some (.cells cs' t (0, 0)) ∧ w5.grownBy w9 none ∧ (∃ u, w8.cell? ⟨K, j, none⟩ = some u) ∧ w8.frozen? ⟨K, j, none⟩ = false := by
  subst h'
  exact ⟨_, rfl, heap_setCell_same w8 K j cs t v n8, grPutB g8 l8 v, ⟨cs[j], by unfold World.cell?; rw [n8]; exact Array.getElem?_eq_getElem hj⟩, frozen_of_row _ _ _ _ _ n8⟩
theorem oneB {B : Nat} {c : Cv} {va : Option Addr} {vc : Nat} {f : Fv} {ta ka : Option Addr} {tc kc : Nat} (hB : W.heap[B]? = some (.cells (cmC c va vc) 39 (0, 0))) (hv : Bu W va c.val.length vc c.val) (ht : Su W ta f.toks.length tc f.toks) (hk : Su W ka f.keys.length kc f.keys) : QAt W ⟨[c], f⟩ (some ⟨B, 0, none⟩) 1 ta tc ka kc := by
  refine ⟨⟨rfl, Nat.le_refl _, by unfold maxLen; decide, .inr ⟨B, 0, rfl, (Array.getElem?_eq_some_iff.1 hB).1, fun i x hi => ?_⟩⟩, ht, hk⟩
  match i, hi with
  | 0, hi =>
    obtain rfl : c = x := by simpa using hi
    refine ⟨va, vc, fun j v hv => ?_, hv⟩
    unfold World.cell?
    rw [hB]
    simpa using hv
theorem rowAt {p : Nat} {cs : Array Value} {t : TypeId} (h : W.heap[p]? = some (.cells cs t (0, 0))) (j : Nat) (v : Value) (hv : cs[j]? = some v) : W.cell? ⟨p, j, none⟩ = some v := by
  unfold World.cell?
  rw [h]
  exact hv
end
theorem run_load_rowB {P : Program} {o : Oper} {a : Act} {w : World} (ty : TypeId) (x : Operand) (ho : o.op = .load ty x) (g : Nat) (hx : a.eval x = .pointer (some ⟨g, 0, none⟩)) {t : TypeId} {cs : Array Value} {fr : Nat × Nat} {d : TypeDesc} (hg : w.heap[g]? = some (.cells cs t fr))
    (hu : P.underlying ty = some d) (hd : (match d with | .struct _ | .array _ _ => true | _ => false) = true) (hi : (P.info? ty).map (·.size) = some cs.size) : (execOp a.eval o).run P w = .ok (.value (.agg cs)) w := by
  unfold execOp
  simp only [ho, hx, Instr.loadAt, Instr.sureAddr, Sem.run_bind, Sem.run_pure, Result.andThen_ok, run_loadVar_row w g t ty cs fr d hg hu hd hi]
theorem run_subB {P : Program} {o : Oper} {a : Act} {w : World} {v : Value} (ty : TypeId) (x lo hi : Operand) (ho : o.op = .slice ty x (some lo) (some hi) none) (h : (Instr.sliceAt ty (a.eval x) (some (a.eval lo)) (some (a.eval hi)) none).run P w = .ok v w) : (execOp a.eval o).run P w = .ok (.value v) w := by
  unfold execOp
  simp only [ho, Option.map_some, Option.map_none, Sem.run_bind, Sem.run_pure, Result.andThen_ok, h]
end Go.Proofs.Ytegaljpllcgaaaa

namespace Go.Proofs.Ytegaljpllcgaaaa
set_option linter.unusedVariables false
open Go.RowKit

/-- The cells of a command. -/
def cellQ (op : Int) (key : ByteArray) (va : Option Addr) (n vc : Nat) (fl exp cas del ini : Int) (mk : Bool) : Array Value := #[.int .i64 op, .string key, .slice va n vc, .int .u32 fl, .int .i64 exp, .int .u64 cas, .int .u64 del, .int .u64 ini, .bool mk, .bool false]
theorem cellQ_size (op : Int) (key : ByteArray) (va : Option Addr) (n vc : Nat) (fl exp cas del ini : Int) (mk : Bool) : (Try.prog.info? 39).map (·.size) = some (cellQ op key va n vc fl exp cas del ini mk).size := by
  have h : (Try.prog.info? 39).map (·.size) = some 10 := by kernel_rfl
  exact h
theorem cellQ_one (op : Int) (key : ByteArray) (va : Option Addr) (n vc : Nat) (fl exp cas del ini : Int) (mk : Bool) : (cellQ op key va n vc fl exp cas del ini mk).all (·.oneCell') = true := by simp [cellQ, Value.oneCell']
theorem cmdB_form (r : R5) (x : List UInt8) : ∃ fl exp del ini mk, cmdB r x = ⟨r.op, ⟨#[]⟩, [], fl, exp, 0, del, ini, mk, false⟩ := by
  unfold cmdB
  split
  · exact ⟨_, _, _, _, _, rfl⟩
  · split
    · exact ⟨_, _, _, _, _, rfl⟩
    · split
      · exact ⟨_, _, _, _, _, rfl⟩
      · exact ⟨_, _, _, _, _, rfl⟩
def stepNoQ : Array Value := stC noS none 0 none 0 none 0
/-- The result's block, the table's row, and the command under way. -/
structure RS (w W : World) (B P K : Nat) (r : R5) (cs : Array Value) : Prop where
  gr : w.grownBy W none
  b : W.heap[B]? = some (.cells stepNoQ 34 (0, 0))
  p : W.heap[P]? = some (.cells (r5C r) 47 (0, 0))
  k : W.heap[K]? = some (.cells cs 39 (0, 0))
  wb : w.heap.size ≤ B
  wk : w.heap.size ≤ K
  kb : K ≠ B
  kp : K ≠ P
section
variable {w W W' : World} {B P K : Nat} {r : R5} {cs : Array Value}
theorem ltQ {o : Obj} {k : Nat} (h : W.heap[k]? = some o) : k < W.heap.size := (Array.getElem?_eq_some_iff.1 h).1
theorem RS.up (h : RS w W B P K r cs) (g : W.grownBy W' none) : RS w W' B P K r cs :=
  ⟨gr_trans h.gr g, (g.block B (ltQ h.b) (by simp)).trans h.b, (g.block P (ltQ h.p) (by simp)).trans h.p, (g.block K (ltQ h.k) (by simp)).trans h.k, h.wb, h.wk, h.kb, h.kp⟩
theorem atQ {p : Nat} {cs : Array Value} {t : TypeId} (h : W.heap[p]? = some (.cells cs t (0, 0))) (j : Nat) (v : Value) (hv : cs[j]? = some v) : W.cell? ⟨p, j, none⟩ = some v := by
  unfold World.cell?
  rw [h]
  exact hv
theorem RS.kc (h : RS w W B P K r cs) (j : Nat) (v : Value) (hv : cs[j]? = some v) : W.cell? ⟨K, j, none⟩ = some v := atQ h.k j v hv
theorem RS.pc (h : RS w W B P K r cs) (j : Nat) (v : Value) (hv : (r5C r)[j]? = some v) : W.cell? ⟨P, j, none⟩ = some v := atQ h.p j v hv
/-- The command's cell j is written. -/
theorem RS.put (h : RS w W B P K r cs) (j : Nat) (v : Value) (cs' : Array Value) (h' : cs.setIfInBounds j v = cs') (hj : j < cs.size) : ∃ W', W.setCell ⟨K, j, none⟩ v = W' ∧ RS w W' B P K r cs' ∧ (∃ u, W.cell? ⟨K, j, none⟩ = some u) ∧ W.frozen? ⟨K, j, none⟩ = false := by
  obtain ⟨W', e1, e2, e3, e4, e5⟩ := putB j v cs' h' hj h.k h.wk h.gr
  have o : ∀ k, k ≠ K → W'.heap[k]? = W.heap[k]? := fun k hk => by rw [← e1]; exact heap_setCell_other _ _ _ _ hk
  exact ⟨W', e1, ⟨e3, (o B (Ne.symm h.kb)).trans h.b, (o P (Ne.symm h.kp)).trans h.p, e2, h.wb, h.wk, h.kb, h.kp⟩, e4, e5⟩
/-- The command is written whole. -/
theorem RS.row (h : RS w W B P K r cs) (cs' : Array Value) : ∃ W', W.setRow K cs' = W' ∧ RS w W' B P K r cs' := by
  obtain ⟨W', e1, e2, e3⟩ := rowB_in cs' h.k h.wk h.gr
  have o : ∀ k, k ≠ K → W'.heap[k]? = W.heap[k]? := fun k hk => by rw [← e3]; exact setRow_other W K k _ hk
  exact ⟨W', e3, ⟨e2, (o B (Ne.symm h.kb)).trans h.b, (o P (Ne.symm h.kp)).trans h.p, e1, h.wb, h.wk, h.kb, h.kp⟩⟩
/-- A cell of another block of one's own is written. -/
theorem RS.other (h : RS w W B P K r cs) {F : Nat} (j : Nat) (v : Value) {fs fs' : Array Value} {t : TypeId} (hf : W.heap[F]? = some (.cells fs t (0, 0))) (h' : fs.setIfInBounds j v = fs') (hj : j < fs.size) (wf : w.heap.size ≤ F) (fb : F ≠ B) (fp : F ≠ P) (fk : F ≠ K) :
    ∃ W', W.setCell ⟨F, j, none⟩ v = W' ∧ RS w W' B P K r cs ∧ W'.heap[F]? = some (.cells fs' t (0, 0)) ∧ (∃ u, W.cell? ⟨F, j, none⟩ = some u) ∧ W.frozen? ⟨F, j, none⟩ = false ∧ (∀ k, k ≠ F → W'.heap[k]? = W.heap[k]?) := by
  obtain ⟨W', e1, e2, e3, e4, e5⟩ := putB j v fs' h' hj hf wf h.gr
  have o : ∀ k, k ≠ F → W'.heap[k]? = W.heap[k]? := fun k hk => by rw [← e1]; exact heap_setCell_other _ _ _ _ hk
  exact ⟨W', e1, ⟨e3, (o B (Ne.symm fb)).trans h.b, (o P (Ne.symm fp)).trans h.p, (o K (Ne.symm fk)).trans h.k, h.wb, h.wk, h.kb, h.kp⟩, e2, e4, e5, o⟩
/-- A block is made. -/
theorem newQ (W : World) (cs : Array Value) (t : TypeId) : ∃ F W', W.heap.size = F ∧ W.alloc (.cells cs t) = W' ∧ W'.heap[F]? = some (.cells cs t (0, 0)) ∧ W.grownBy W' none ∧ W.heap.size ≤ F :=
  ⟨_, _, rfl, rfl, World.alloc_heap_new _ _, World.grownBy_alloc _ _ _, Nat.le_refl _⟩
/-- A row of one's own outlasts a store into another block. -/
theorem Bu.apart {va : Option Addr} {vc K n0 : Nat} {val : List UInt8} (h : ValAt n0 W va vc val) (hK : K < n0) (ho : ∀ k, k ≠ K → W'.heap[k]? = W.heap[k]?) : ValAt n0 W' va vc val := by
  unfold ValAt at *
  exact own_same h fun k hk => ho k (by have := (own_at h hk).1; omega)
end
theorem w64_idR {z : Int} (h0 : 0 ≤ z) (h1 : z < 4294967296) : wrap64 z = z := by unfold wrap64; omega
theorem convQ {w : World} {a : Option Addr} {len cap : Nat} {l : List UInt8} (h : Bu w a len cap l) : (convert 22 9 (.slice a len cap)).run Try.prog w = .ok (.string ⟨l.toArray⟩) w := by
  rw [conv_bs h.b, strOf_ints]
theorem own_upV {w w' : World} {n0 c : Nat} {a : Option Addr} {l : List UInt8} (g : w.grownBy w' none) (h : ValAt n0 w a c l) : ValAt n0 w' a c l := own_same h fun k hk => g.block k (own_at h hk).2.1 (by simp)
theorem bu_nilQ (w : World) : Bu w none 0 0 [] := ⟨rfl, .inl ⟨rfl, rfl, fun _ => rfl⟩, Nat.le_refl _, Nat.zero_le _⟩
theorem fmQ_size (f : Fv) (ta : Option Addr) (tc : Nat) (ka : Option Addr) (kc : Nat) : (Try.prog.info? 29).map (·.size) = some (fmC f ta tc ka kc).size := by
  have h : (Try.prog.info? 29).map (·.size) = some 10 := by kernel_rfl
  exact h
theorem fmQ_one (f : Fv) (ta : Option Addr) (tc : Nat) (ka : Option Addr) (kc : Nat) : (fmC f ta tc ka kc).all (·.oneCell') = true := by simp [fmC, Value.oneCell']
theorem suQ {W : World} {S : Nat} {key : ByteArray} {t : TypeId} (h : W.heap[S]? = some (.cells #[.string key] t (0, 0))) : Su W (some ⟨S, 0, none⟩) 1 1 [key] := by
  refine ⟨rfl, Nat.le_refl _, by unfold maxLen; decide, .inr ⟨S, 0, rfl, ltQ h, fun i x hi => ?_⟩⟩
  match i, hi with
  | 0, hi =>
    obtain rfl : key = x := by simpa using hi
    exact atQ h 0 _ rfl
/-- The numbers of a head that fits, as its walk asks them. -/
structure NumQ (len cap x l k : Nat) : Prop where
  s1 : 24 + x ≤ len
  s2 : 24 + x + k ≤ len
  s3 : 24 + x + k + (l - x - k) ≤ len
  s4 : 24 + (l : Int) = ((24 + x + k : Nat) : Int) + ((l - x - k : Nat) : Int)
  s5 : (l : Int) = ((x + k + (l - x - k) : Nat) : Int)
  sv1 : l - x - k ≤ 100000000
  e7 : wrap64 (24 + (x : Int)) = 24 + (x : Int)
  e8 : wrap64 (24 + (x : Int) + (k : Int)) = 24 + (x : Int) + (k : Int)
  e9 : IntKind.i64.wrap (24 + (x : Int)) = 24 + (x : Int)
  q0 : ((len : Int) == 0) = false
  q1 : (0 : Int) < (len : Int)
  q1b : (1 : Int) < (len : Int)
  q4b : (4 : Int) < (len : Int)
  q2 : ¬ (len : Int) < 24
  q3 : ¬ (len : Int) < 24 + (l : Int)
  q5 : ¬ (2048 : Int) < (l : Int)
  d8 : (8 : Int) ≤ (cap : Int)
  d12 : (12 : Int) ≤ (cap : Int)
  d2 : (2 : Int) ≤ (cap : Int)
  d4 : (4 : Int) ≤ (cap : Int)
  d16 : (16 : Int) ≤ (cap : Int)
  d24 : (24 : Int) ≤ (cap : Int)
  m8 : ¬ cap = 8
  m2 : ¬ cap = 2
  m12 : ¬ cap = 12
  m16 : ¬ cap = 16
  e1 : wrap64 (24 + (l : Int)) = 24 + (l : Int)
  e2 : IntKind.i64.wrap (l : Int) = (l : Int)
  e3 : IntKind.i64.wrap (k : Int) = (k : Int)
  e6 : IntKind.i64.wrap (x : Int) = (x : Int)
  p16 : 16 + 8 ≤ len
theorem numQ {len cap x l k : Nat} (n24 : 24 ≤ len) (x1 : x ≤ 255) (l1 : l ≤ 2048) (fit : 24 + l ≤ len) (hcap : len ≤ cap) (ff : x + k ≤ l) : NumQ len cap x l k := by
  constructor
  case e7 => exact w64_idR (by omega) (by omega)
  case e8 => exact w64_idR (by omega) (by omega)
  case e9 => exact i64_id (by omega) (by omega)
  case e1 => exact w64_idR (by omega) (by omega)
  case e2 => exact i64_id (by omega) (by omega)
  case e3 => exact i64_id (by omega) (by omega)
  case e6 => exact i64_id (by omega) (by omega)
  case q0 => rw [beq_eq_false_iff_ne]; omega
  all_goals omega
theorem len_keyQ {b : List UInt8} {len i k : Nat} (hn : b.length = len) (h : i + k ≤ len) : ((b.drop i).take k).length = k := by
  rw [List.length_take, List.length_drop, hn]
  omega
theorem apartHi {W0 W W' : World} {va : Option Addr} {vc F n0 : Nat} {val : List UInt8} (h0 : ValAt n0 W0 va vc val) (h : ValAt n0 W va vc val) (hF : W0.heap.size ≤ F) (ho : ∀ k, k ≠ F → W'.heap[k]? = W.heap[k]?) : ValAt n0 W' va vc val := by
  unfold ValAt at *
  exact own_same h fun k hk => ho k (by have := (own_at h0 hk).2.1; omega)
/-- What two ways have in common is walked once. -/
theorem join_two {G : Nat → World → Prop} {F : Nat → World → Prop} {goal : Prop} (tail : ∀ K W, F K W → G K W) (heads : (∀ K W, F K W → G K W) → goal) : goal := heads tail
end Go.Proofs.Ytegaljpllcgaaaa
