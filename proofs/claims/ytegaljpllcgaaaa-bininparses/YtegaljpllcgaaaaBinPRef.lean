/- Package binin's reply to what is no request. Conditions: a code of a byte, a status below 65536. -/
import Derived.Test.YtegaljpllcgaaaaBinPHead
import Derived.Test.YtegaljpllcgaaaaByteCats
import Derived.Test.YtegaljpllcgaaaaPut32
namespace Go.Proofs.Ytegaljpllcgaaaa
set_option linter.unusedVariables false
open Go.RowKit Go.Shelf

/-- Numbers as bytes. -/
def byL (zs : List Int) : List UInt8 := zs.map fun z => UInt8.ofNat z.toNat
theorem ints_byL : ∀ {zs : List Int}, Byt zs → ints (byL zs) = zs
  | [], _ => rfl
  | z :: zs, h => by
    have h1 := h z (by simp)
    have h2 : ints (byL zs) = zs := ints_byL fun y hy => h y (by simp [hy])
    show (((UInt8.ofNat z.toNat).toNat : Int)) :: ints (byL zs) = z :: zs
    have h3 : (UInt8.ofNat z.toNat).toNat = z.toNat % 256 := by first | exact UInt8.toNat_ofNat' | simp [UInt8.toNat_ofNat'] | rfl
    rw [h2, h3]
    congr 1
    omega
theorem strOf_byL (zs : List Int) : strOf zs = ⟨(byL zs).toArray⟩ := rfl
theorem room_u {n : Nat} (w : World) (l : List UInt8) (hn : l.length = n) (hm : n ≤ maxLen) : Bu (w.alloc (.cells (byU l).toArray 5)) (some ⟨w.heap.size, 0, none⟩) n n l := by
  have h : ValAt w.heap.size (w.alloc (.cells (byU l).toArray 5)) (some ⟨w.heap.size, 0, none⟩) n l := by
    unfold ValAt
    rw [hn]
    exact ⟨by rw [byU_len, hn, Nat.mul_one], .inr ⟨w.heap.size, n, (byU l).toArray, rfl, Nat.le_refl _, World.alloc_heap_new w _, Nat.le_refl _, hm, by rw [List.size_toArray, byU_len, hn, Nat.mul_one], by rw [Nat.mul_one, List.take_of_length_le (by rw [byU_len, hn]; exact Nat.le_refl _)]⟩⟩
  have := h.bu
  rwa [hn] at this
theorem own_u {W : World} {g n : Nat} {zs : List Int} (hb : Byt zs) (hn : zs.length = n) (h : W.ownsRow g 5 1 (.slice (some ⟨g, 0, none⟩) n n) n (zs.map (Value.int .u8))) : Bu W (some ⟨g, 0, none⟩) n n (byL zs) := by
  have hl : (byL zs).length = n := by unfold byL; rw [List.length_map, hn]
  have h2 : ValAt g W (some ⟨g, 0, none⟩) n (byL zs) := by
    unfold ValAt byU byV
    rw [hl, ints_byL hb]
    exact h
  have := h2.bu
  rwa [hl] at this
theorem be_byt (n size : Nat) : Byt (be n size) := by
  intro z hz
  unfold be at hz
  obtain ⟨i, _, rfl⟩ := List.mem_map.1 hz
  omega
theorem make8 (w : World) : (Instr.makeSlice 22 (.int .i64 8) (.int .i64 8)).run Try.prog w = .ok (.slice (some ⟨w.heap.size, 0, none⟩) 8 8) (w.alloc (.cells #[.int .u8 0, .int .u8 0, .int .u8 0, .int .u8 0, .int .u8 0, .int .u8 0, .int .u8 0, .int .u8 0] 5)) := by
  have h := run_make_row' (P := Try.prog) 22 5 (.int .u8 0) 1 Try.underlying22 (by kernel_rfl) rfl .i64 .i64 8 (by decide) (by decide) w
  rw [show madeCells #[Value.int .u8 0] 8 = #[.int .u8 0, .int .u8 0, .int .u8 0, .int .u8 0, .int .u8 0, .int .u8 0, .int .u8 0, .int .u8 0] from Array.toList_inj.1 (by rw [toList_madeCells_one]; rfl)] at h
  exact h
def fourN : List UInt8 := [0, 0, 0, 0]
def eightN : List UInt8 := [0, 0, 0, 0, 0, 0, 0, 0]
/-- The parts of a reply. -/
def partsF (c s o : Int) : List (List UInt8) := [byL [129, c], fourN, byL (be s.toNat 2), fourN, byL (be o.toNat 4), eightN]
theorem partsF_flat {c s o : Int} (c0 : 0 ≤ c) (c1 : c ≤ 255) (s0 : 0 ≤ s) (s1 : s < 65536) (o0 : 0 ≤ o) : (⟨(partsF c s o).flatten.toArray⟩ : ByteArray) = strOf (faultZ c s o) := by
  rw [strOf_byL]
  congr 2
  have e1 : be s.toNat 2 = [s / 256 % 256, s % 256] := by
    have : ((s.toNat : Nat) : Int) = s := Int.toNat_of_nonneg s0
    simp [be, List.range_succ, this]
  have e2 : be o.toNat 4 = opq4 o := by
    rw [be_four]
    rw [Int.toNat_of_nonneg o0]
  have e3 : c % 256 = c := by omega
  have e4 : wrap64 (s.tdiv 256) = s / 256 := by
    rw [Int.tdiv_eq_ediv_of_nonneg s0]
    unfold wrap64
    omega
  unfold partsF faultZ byL
  rw [e1, e2, e3, e4]
  simp [fourN, eightN, opq4]
theorem rws_six {W : World} {g : Nat} {t : TypeId} {c s o : Int} {p q r N : Nat} (h : W.heap[g]? = some (.cells #[.slice (some ⟨p, 0, none⟩) 2 2, .slice (some ⟨N, 0, none⟩) 4 4, .slice (some ⟨q, 0, none⟩) 2 2, .slice (some ⟨N, 0, none⟩) 4 4, .slice (some ⟨r, 0, none⟩) 4 4, .slice (some ⟨N, 0, none⟩) 8 8] t (0, 0)))
    (h8 : Bu W (some ⟨N, 0, none⟩) 8 8 eightN) (h2 : Bu W (some ⟨p, 0, none⟩) 2 2 (byL [129, c])) (hs : Bu W (some ⟨q, 0, none⟩) 2 2 (byL (be s.toNat 2))) (ho : Bu W (some ⟨r, 0, none⟩) 4 4 (byL (be o.toNat 4))) : Rws W g (partsF c s o) := by
  have h4 : Bu W (some ⟨N, 0, none⟩) 4 4 fourN := h8.front (j := 4) (c := 4) (by decide) (by decide) (by decide)
  have at_ : ∀ i v, (#[.slice (some ⟨p, 0, none⟩) 2 2, .slice (some ⟨N, 0, none⟩) 4 4, .slice (some ⟨q, 0, none⟩) 2 2, .slice (some ⟨N, 0, none⟩) 4 4, .slice (some ⟨r, 0, none⟩) 4 4, .slice (some ⟨N, 0, none⟩) 8 8] : Array Value)[i]? = some v → W.cell? ⟨g, i, none⟩ = some v := fun i v hv => by
    unfold World.cell?
    rw [h]
    exact hv
  refine ⟨fun i hi => ?_, (Array.getElem?_eq_some_iff.1 h).1⟩
  have hi' : i < 6 := hi
  match i, hi' with
  | 0, _ => exact ⟨_, _, at_ 0 _ rfl, h2.b⟩
  | 1, _ => exact ⟨_, _, at_ 1 _ rfl, h4.b⟩
  | 2, _ => exact ⟨_, _, at_ 2 _ rfl, hs.b⟩
  | 3, _ => exact ⟨_, _, at_ 3 _ rfl, h4.b⟩
  | 4, _ => exact ⟨_, _, at_ 4 _ rfl, ho.b⟩
  | 5, _ => exact ⟨_, _, at_ 5 _ rfl, h8.b⟩
theorem wpList_val' {P : Program} {w w' : World} {ops : Array Oper} {rest : List Oper} {o : Oper} {a : Act} {Q : Exit → Act → World → Prop} (hg : o.guard = none) {v : Value} (hx : (execOp a.eval o).run P w = .ok (.value v) w') (h : wpList P ops Q rest (a.put o.dst v) w') : wpList P ops Q (o :: rest) a w :=
  wpList_plain hg fun K hK => by
    unfold Oper.wp
    rw [hx]
    exact hK _ _ h
theorem boxB6 (w : World) (cs : Array Value) (t : TypeId) : ∃ K w8, w.heap.size = K ∧ w.alloc (.cells cs t) = w8 ∧ w8.heap[K]? = some (.cells cs t (0, 0)) ∧ w.heap.size ≤ K ∧ w.grownBy w8 none :=
  ⟨_, _, rfl, rfl, World.alloc_heap_new _ _, Nat.le_refl _, World.grownBy_alloc _ _ none⟩
section
variable {w : World}
set_option maxRecDepth 100000 in
set_option maxHeartbeats 8000000 in
theorem prefuse_any {c k x o cas s : Int} (c0 : 0 ≤ c) (c1 : c ≤ 255) (s0 : 0 ≤ s) (s1 : s < 65536) (o0 : 0 ≤ o) (o1 : o < 4294967296) :
    Calls Try.prog 21 #[.agg (hdC c k x o cas), .int .u16 s] w fun e w' => e = .returned (.string (strOf (faultZ c s o))) ∧ w.grownBy w' none := by
  have M := make8
  have HF := hide (partsF_flat c0 c1 s0 s1 o0)
  have HS := hide (fun (W : World) => put16_any s.toNat (by omega) W)
  have HO := hide (fun (W : World) => put32_any o.toNat (by omega) W)
  rw [Int.toNat_of_nonneg s0] at HS
  rw [Int.toNat_of_nonneg o0] at HO
  have HC := hide (fun (W : World) (g : Nat) (h : Rws W g (partsF c s o)) => catN_any (n := 6) (cap := 6) h rfl (by decide) (by simp [partsF, byL, be, fourN, eightN]))
  obtain ⟨F, hF⟩ : ∃ F, (partsF c s o).flatten = F := ⟨_, rfl⟩
  rw [hF] at HF HC
  clear hF
  have ub : byL [129, c] = [129, UInt8.ofNat c.toNat] := rfl
  have uv : (byU (byL [129, c])).toArray = #[.int .u8 129, .int .u8 c] := by
    unfold byU byV
    rw [ints_byL (by intro z hz; simp only [List.mem_cons, List.not_mem_nil, or_false] at hz; omega)]
    rfl
  have R2 := hide (fun (W : World) => room_u (n := 2) W (byL [129, c]) rfl (by decide))
  rw [uv] at R2
  obtain ⟨V0, hV0⟩ : ∃ V0, V0 = w.alloc (.cells (hdC c k x o cas) 54) := ⟨_, rfl⟩
  obtain ⟨B, hB⟩ : ∃ B, B = w.heap.size := ⟨_, rfl⟩
  have g0 : w.grownBy V0 none := by rw [hV0]; exact World.grownBy_alloc _ _ _
  have r0 : V0.heap[B]? = some (.cells (hdC c k x o cas) 54 (0, 0)) := by rw [hV0, hB]; exact World.alloc_heap_new w _
  obtain ⟨V, hV⟩ : ∃ V, V = V0.alloc (.cells #[.int .u8 0, .int .u8 0, .int .u8 0, .int .u8 0, .int .u8 0, .int .u8 0, .int .u8 0, .int .u8 0] 5) := ⟨_, rfl⟩
  obtain ⟨N, hN⟩ : ∃ N, N = V0.heap.size := ⟨_, rfl⟩
  have g1 : V0.grownBy V none := by rw [hV]; exact World.grownBy_alloc _ _ _
  have z8 : Bu V (some ⟨N, 0, none⟩) 8 8 eightN := by
    have := room_u (n := 8) V0 eightN rfl (by decide)
    rw [show (byU eightN).toArray = #[.int .u8 0, .int .u8 0, .int .u8 0, .int .u8 0, .int .u8 0, .int .u8 0, .int .u8 0, .int .u8 0] from rfl, ← hV, ← hN] at this
    exact this
  have rB : V.heap[B]? = some (.cells (hdC c k x o cas) 54 (0, 0)) := (g1.block B (Array.getElem?_eq_some_iff.1 r0).1 (by simp)).trans r0
  have gV := hide (gr_trans g0 g1)
  have bc := hide (fun (W : World) (hW : V.grownBy W none) => (fun j v (hv : (hdC c k x o cas)[j]? = some v) => (show W.cell? ⟨B, j, none⟩ = some v by
    have e := (hW.block B (Array.getElem?_eq_some_iff.1 rB).1 (by simp)).trans rB
    unfold World.cell?
    rw [e]
    exact hv)))
  replace z8 := hide z8
  have hBN : B + 1 = N := by rw [hN, hV0, World.size_alloc, hB]
  clear r0 rB g0 g1 uv ub c0 c1 s0 s1 o0 o1
  simp only [hdC] at hV0 ⊢
  go_enter Try.func21, Try.ntmps21
  go_upto_region 2 with fail
  rw [← hV0, ← hV, ← hB, hBN]
  clear hV0 hB hN hV M hBN
  refine region_htail (S := fun W' => V.grownBy W' none) 13 (by kernel_rfl) (by simp) (by kernel_rfl) ?_
  simp only [List.take_succ_cons, List.take_zero, List.drop_succ_cons, List.drop_zero]
  have S0 : V.grownBy V.drew none := gr_of_below (Below.drew (Below.refl _ _))
  generalize V.drew = W0 at *
  refine take_at 0 7 (v := .pointer (some ⟨B, 0, none⟩)) rfl rfl (by kernel_rfl) (by kernel_rfl) (by kernel_rfl) (fun _ _ _ h => h) (Or.inl ⟨by rfl, fun W hW => by go_simp⟩) S0 ?_
  simp only [Act.put, List.setIfInBounds_toArray, List.set_cons_zero, List.set_cons_succ]
  refine take_at 1 8 (v := .int .u8 c) rfl rfl (by kernel_rfl) (by kernel_rfl) (by kernel_rfl) (fun _ _ _ h => h) (Or.inl ⟨by rfl, fun W hW => by have cc := bc.out W hW 0 (.int .u8 c) rfl; go_simp⟩) S0 ?_
  simp only [Act.put, List.setIfInBounds_toArray, List.set_cons_zero, List.set_cons_succ]
  refine take_at 3 10 (v := .slice (some ⟨N, 0, none⟩) 8 8) rfl rfl (by kernel_rfl) (by kernel_rfl) (by kernel_rfl) (fun _ _ _ h => h) (Or.inl ⟨by rfl, fun W hW => by go_simp⟩) S0 ?_
  simp only [Act.put, List.setIfInBounds_toArray, List.set_cons_zero, List.set_cons_succ]
  refine take_at 4 11 (v := .slice (some ⟨N, 0, none⟩) 4 4) rfl rfl (by kernel_rfl) (by kernel_rfl) (by kernel_rfl) (fun _ _ _ h => h) (Or.inl ⟨by rfl, fun W hW => by go_simp⟩) S0 ?_
  simp only [Act.put, List.setIfInBounds_toArray, List.set_cons_zero, List.set_cons_succ]
  refine take_at 5 12 (v := .int .u16 s) rfl rfl (by kernel_rfl) (by kernel_rfl) (by kernel_rfl) (fun _ _ _ h => h) (Or.inl ⟨by rfl, fun W hW => by go_simp⟩) S0 ?_
  simp only [Act.put, List.setIfInBounds_toArray, List.set_cons_zero, List.set_cons_succ]
  refine take_at 7 14 (v := .slice (some ⟨N, 0, none⟩) 8 8) rfl rfl (by kernel_rfl) (by kernel_rfl) (by kernel_rfl) (fun _ _ _ h => h) (Or.inl ⟨by rfl, fun W hW => by go_simp⟩) S0 ?_
  simp only [Act.put, List.setIfInBounds_toArray, List.set_cons_zero, List.set_cons_succ]
  refine take_at 8 15 (v := .slice (some ⟨N, 0, none⟩) 4 4) rfl rfl (by kernel_rfl) (by kernel_rfl) (by kernel_rfl) (fun _ _ _ h => h) (Or.inl ⟨by rfl, fun W hW => by go_simp⟩) S0 ?_
  simp only [Act.put, List.setIfInBounds_toArray, List.set_cons_zero, List.set_cons_succ]
  refine take_at 9 16 (v := .pointer (some ⟨B, 3, none⟩)) rfl rfl (by kernel_rfl) (by kernel_rfl) (by kernel_rfl) (fun _ _ _ h => h) (Or.inl ⟨by rfl, fun W hW => by go_simp⟩) S0 ?_
  simp only [Act.put, List.setIfInBounds_toArray, List.set_cons_zero, List.set_cons_succ]
  refine take_at 10 17 (v := .int .u32 o) rfl rfl (by kernel_rfl) (by kernel_rfl) (by kernel_rfl) (fun _ _ _ h => h) (Or.inl ⟨by rfl, fun W hW => by have cc := bc.out W hW 3 (.int .u32 o) rfl; go_simp⟩) S0 ?_
  simp only [Act.put, List.setIfInBounds_toArray, List.set_cons_zero, List.set_cons_succ]
  refine take_at 12 19 (v := .slice (some ⟨N, 0, none⟩) 8 8) rfl rfl (by kernel_rfl) (by kernel_rfl) (by kernel_rfl) (fun _ _ _ h => h) (Or.inl ⟨by rfl, fun W hW => by go_simp⟩) S0 ?_
  simp only [Act.put, List.setIfInBounds_toArray, List.set_cons_zero, List.set_cons_succ]
  clear bc
  refine wpAnyH_all (rs := [2, 6]) (by kernel_rfl) (by simp) fun j hj => ?_
  simp only [List.mem_cons, List.not_mem_nil, or_false] at hj
  rcases hj with rfl | rfl
  · refine wpOp_plain rfl rfl ?_
    have p0 := World.grownBy_alloc W0 (.cells #[.int .u8 129, .int .u8 c] 5) none
    have f9 := R2.out W0
    refine oper_value 9 (w' := W0.alloc (.cells #[.int .u8 129, .int .u8 c] 5)) (v := .slice (some ⟨W0.heap.size, 0, none⟩) 2 2) rfl (by go_simp) ?_
    obtain ⟨s9, hs9⟩ : ∃ s9, W0.heap.size = s9 := ⟨_, rfl⟩
    obtain ⟨W1, hW1⟩ : ∃ W1, W0.alloc (.cells #[.int .u8 129, .int .u8 c] 5) = W1 := ⟨_, rfl⟩
    rw [hs9, hW1] at f9 ⊢
    rw [hW1] at p0
    clear hs9 hW1
    have S1 := gr_trans S0 p0
    refine ⟨S1, ?_⟩
    simp only [Act.put, List.setIfInBounds_toArray, List.set_cons_zero, List.set_cons_succ]
    refine one_at 6 (by kernel_rfl) rfl rfl ?_
    refine oper_call 13 rfl (by go_simp) (HS.out W1) ?_
    rintro e W2 ⟨rfl, ho, hb⟩
    refine ⟨_, rfl, ?_⟩
    have f13 := own_u (zs := be s.toNat 2) (be_byt _ _) (by simp [be]) ho
    have p1 := gr_of_below hb
    obtain ⟨s13, hs13⟩ : ∃ s13, W1.heap.size = s13 := ⟨_, rfl⟩
    rw [hs13] at f13 ⊢
    clear ho hb hs13
    have S2 := gr_trans S1 p1
    replace f9 := f9.on (below_gr p1)
    refine ⟨S2, ?_⟩
    simp only [Act.put, List.setIfInBounds_toArray, List.set_cons_zero, List.set_cons_succ]
    refine one_at 11 (by kernel_rfl) rfl rfl ?_
    refine oper_call 18 rfl (by go_simp) (HO.out W2) ?_
    rintro e W3 ⟨rfl, ho, hb⟩
    refine ⟨_, rfl, ?_⟩
    have f18 := own_u (zs := be o.toNat 4) (be_byt _ _) (by simp [be]) ho
    have p2 := gr_of_below hb
    obtain ⟨s18, hs18⟩ : ∃ s18, W2.heap.size = s18 := ⟨_, rfl⟩
    rw [hs18] at f18 ⊢
    clear ho hb hs18
    have S3 := gr_trans S2 p2
    replace f9 := f9.on (below_gr p2)
    replace f13 := f13.on (below_gr p2)
    refine ⟨S3, ?_⟩
    simp only [Act.put, List.setIfInBounds_toArray, List.set_cons_zero, List.set_cons_succ]
    refine wpAnyH_done (by kernel_rfl) ?_ _
    change wpList _ _ _ _ _ _
    have GE := hide (gr_trans gV.out S3)
    have Z := z8.out.on (below_gr S3)
    obtain ⟨G, W4, eG, e4, r4, l4, q4⟩ := boxB6 W3 #[.slice (some ⟨s9, 0, none⟩) 2 2, .slice (some ⟨N, 0, none⟩) 4 4, .slice (some ⟨s13, 0, none⟩) 2 2, .slice (some ⟨N, 0, none⟩) 4 4, .slice (some ⟨s18, 0, none⟩) 4 4, .slice (some ⟨N, 0, none⟩) 8 8] 22
    have HX := hide (HC.out W4 G (rws_six r4 (Z.on (below_gr q4)) (f9.on (below_gr q4)) (f13.on (below_gr q4)) (f18.on (below_gr q4))))
    replace q4 := hide q4
    replace HF := hide HF.out
    clear f9 f13 f18 Z S0 S1 S2 S3 p0 p1 p2 HS HO HC R2 z8 gV r4 l4
    refine wpList_val' rfl (v := .slice (some ⟨G, 0, none⟩) 6 6) (w' := W4) (by rw [← eG, ← e4]; go_simp) ?_
    clear eG e4
    go_wp2_with (first
      | (go_at_call 39; refine HX.out.mono ?_; rintro e W5 ⟨v5, rfl, o5, g5⟩; obtain ⟨a5, c5, rfl⟩ := own_shape o5; have cv := conv_bs (ValAt.bs (l := F) (n0 := W4.heap.size) o5); replace g5 := hide g5; clear o5; rw [strOf_ints, HF.out] at cv))
    go_ret
    exact ⟨rfl, gr_trans GE.out (gr_trans q4.out g5.out)⟩
  · refine wpOp_plain rfl rfl ?_
    refine oper_call 13 rfl (by go_simp) (HS.out W0) ?_
    rintro e W1 ⟨rfl, ho, hb⟩
    refine ⟨_, rfl, ?_⟩
    have f13 := own_u (zs := be s.toNat 2) (be_byt _ _) (by simp [be]) ho
    have p0 := gr_of_below hb
    obtain ⟨s13, hs13⟩ : ∃ s13, W0.heap.size = s13 := ⟨_, rfl⟩
    rw [hs13] at f13 ⊢
    clear ho hb hs13
    have S1 := gr_trans S0 p0
    refine ⟨S1, ?_⟩
    simp only [Act.put, List.setIfInBounds_toArray, List.set_cons_zero, List.set_cons_succ]
    refine wpAnyH_all (rs := [2, 11]) (by kernel_rfl) (by simp) fun j hj => ?_
    simp only [List.mem_cons, List.not_mem_nil, or_false] at hj
    rcases hj with rfl | rfl
    · refine wpOp_plain rfl rfl ?_
      have p1 := World.grownBy_alloc W1 (.cells #[.int .u8 129, .int .u8 c] 5) none
      have f9 := R2.out W1
      refine oper_value 9 (w' := W1.alloc (.cells #[.int .u8 129, .int .u8 c] 5)) (v := .slice (some ⟨W1.heap.size, 0, none⟩) 2 2) rfl (by go_simp) ?_
      obtain ⟨s9, hs9⟩ : ∃ s9, W1.heap.size = s9 := ⟨_, rfl⟩
      obtain ⟨W2, hW2⟩ : ∃ W2, W1.alloc (.cells #[.int .u8 129, .int .u8 c] 5) = W2 := ⟨_, rfl⟩
      rw [hs9, hW2] at f9 ⊢
      rw [hW2] at p1
      clear hs9 hW2
      have S2 := gr_trans S1 p1
      replace f13 := f13.on (below_gr p1)
      refine ⟨S2, ?_⟩
      simp only [Act.put, List.setIfInBounds_toArray, List.set_cons_zero, List.set_cons_succ]
      refine one_at 11 (by kernel_rfl) rfl rfl ?_
      refine oper_call 18 rfl (by go_simp) (HO.out W2) ?_
      rintro e W3 ⟨rfl, ho, hb⟩
      refine ⟨_, rfl, ?_⟩
      have f18 := own_u (zs := be o.toNat 4) (be_byt _ _) (by simp [be]) ho
      have p2 := gr_of_below hb
      obtain ⟨s18, hs18⟩ : ∃ s18, W2.heap.size = s18 := ⟨_, rfl⟩
      rw [hs18] at f18 ⊢
      clear ho hb hs18
      have S3 := gr_trans S2 p2
      replace f13 := f13.on (below_gr p2)
      replace f9 := f9.on (below_gr p2)
      refine ⟨S3, ?_⟩
      simp only [Act.put, List.setIfInBounds_toArray, List.set_cons_zero, List.set_cons_succ]
      refine wpAnyH_done (by kernel_rfl) ?_ _
      change wpList _ _ _ _ _ _
      have GE := hide (gr_trans gV.out S3)
      have Z := z8.out.on (below_gr S3)
      obtain ⟨G, W4, eG, e4, r4, l4, q4⟩ := boxB6 W3 #[.slice (some ⟨s9, 0, none⟩) 2 2, .slice (some ⟨N, 0, none⟩) 4 4, .slice (some ⟨s13, 0, none⟩) 2 2, .slice (some ⟨N, 0, none⟩) 4 4, .slice (some ⟨s18, 0, none⟩) 4 4, .slice (some ⟨N, 0, none⟩) 8 8] 22
      have HX := hide (HC.out W4 G (rws_six r4 (Z.on (below_gr q4)) (f9.on (below_gr q4)) (f13.on (below_gr q4)) (f18.on (below_gr q4))))
      replace q4 := hide q4
      replace HF := hide HF.out
      clear f9 f13 f18 Z S0 S1 S2 S3 p0 p1 p2 HS HO HC R2 z8 gV r4 l4
      refine wpList_val' rfl (v := .slice (some ⟨G, 0, none⟩) 6 6) (w' := W4) (by rw [← eG, ← e4]; go_simp) ?_
      clear eG e4
      go_wp2_with (first
        | (go_at_call 39; refine HX.out.mono ?_; rintro e W5 ⟨v5, rfl, o5, g5⟩; obtain ⟨a5, c5, rfl⟩ := own_shape o5; have cv := conv_bs (ValAt.bs (l := F) (n0 := W4.heap.size) o5); replace g5 := hide g5; clear o5; rw [strOf_ints, HF.out] at cv))
      go_ret
      exact ⟨rfl, gr_trans GE.out (gr_trans q4.out g5.out)⟩
    · refine wpOp_plain rfl rfl ?_
      refine oper_call 18 rfl (by go_simp) (HO.out W1) ?_
      rintro e W2 ⟨rfl, ho, hb⟩
      refine ⟨_, rfl, ?_⟩
      have f18 := own_u (zs := be o.toNat 4) (be_byt _ _) (by simp [be]) ho
      have p1 := gr_of_below hb
      obtain ⟨s18, hs18⟩ : ∃ s18, W1.heap.size = s18 := ⟨_, rfl⟩
      rw [hs18] at f18 ⊢
      clear ho hb hs18
      have S2 := gr_trans S1 p1
      replace f13 := f13.on (below_gr p1)
      refine ⟨S2, ?_⟩
      simp only [Act.put, List.setIfInBounds_toArray, List.set_cons_zero, List.set_cons_succ]
      refine one_at 2 (by kernel_rfl) rfl rfl ?_
      have p2 := World.grownBy_alloc W2 (.cells #[.int .u8 129, .int .u8 c] 5) none
      have f9 := R2.out W2
      refine oper_value 9 (w' := W2.alloc (.cells #[.int .u8 129, .int .u8 c] 5)) (v := .slice (some ⟨W2.heap.size, 0, none⟩) 2 2) rfl (by go_simp) ?_
      obtain ⟨s9, hs9⟩ : ∃ s9, W2.heap.size = s9 := ⟨_, rfl⟩
      obtain ⟨W3, hW3⟩ : ∃ W3, W2.alloc (.cells #[.int .u8 129, .int .u8 c] 5) = W3 := ⟨_, rfl⟩
      rw [hs9, hW3] at f9 ⊢
      rw [hW3] at p2
      clear hs9 hW3
      have S3 := gr_trans S2 p2
      replace f13 := f13.on (below_gr p2)
      replace f18 := f18.on (below_gr p2)
      refine ⟨S3, ?_⟩
      simp only [Act.put, List.setIfInBounds_toArray, List.set_cons_zero, List.set_cons_succ]
      refine wpAnyH_done (by kernel_rfl) ?_ _
      change wpList _ _ _ _ _ _
      have GE := hide (gr_trans gV.out S3)
      have Z := z8.out.on (below_gr S3)
      obtain ⟨G, W4, eG, e4, r4, l4, q4⟩ := boxB6 W3 #[.slice (some ⟨s9, 0, none⟩) 2 2, .slice (some ⟨N, 0, none⟩) 4 4, .slice (some ⟨s13, 0, none⟩) 2 2, .slice (some ⟨N, 0, none⟩) 4 4, .slice (some ⟨s18, 0, none⟩) 4 4, .slice (some ⟨N, 0, none⟩) 8 8] 22
      have HX := hide (HC.out W4 G (rws_six r4 (Z.on (below_gr q4)) (f9.on (below_gr q4)) (f13.on (below_gr q4)) (f18.on (below_gr q4))))
      replace q4 := hide q4
      replace HF := hide HF.out
      clear f9 f13 f18 Z S0 S1 S2 S3 p0 p1 p2 HS HO HC R2 z8 gV r4 l4
      refine wpList_val' rfl (v := .slice (some ⟨G, 0, none⟩) 6 6) (w' := W4) (by rw [← eG, ← e4]; go_simp) ?_
      clear eG e4
      go_wp2_with (first
        | (go_at_call 39; refine HX.out.mono ?_; rintro e W5 ⟨v5, rfl, o5, g5⟩; obtain ⟨a5, c5, rfl⟩ := own_shape o5; have cv := conv_bs (ValAt.bs (l := F) (n0 := W4.heap.size) o5); replace g5 := hide g5; clear o5; rw [strOf_ints, HF.out] at cv))
      go_ret
      exact ⟨rfl, gr_trans GE.out (gr_trans q4.out g5.out)⟩
end
end Go.Proofs.Ytegaljpllcgaaaa
