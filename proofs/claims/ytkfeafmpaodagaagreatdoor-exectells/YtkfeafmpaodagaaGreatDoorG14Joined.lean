/- The contracts of package slab, out of the program's own text. Conditions: none. The contracts of package slab: New and Free. Conditions: none. -/
import Derived.Test.YtkfeafmpaodagaaGreatDoorG13Joined
import Derived.Test.YtkfeafmpaodagaaGreatDoorG12Joined
import Derived.DeepKeys4
import Derived.Deep.CutBlock
import Derived.Deep.CutRange
import Derived.Deep.QuietTactic
import Derived.BigQuiet
namespace Go.Proofs.YtkfeafmpaodagaaGreatDoor
open Go.RowKit Go.Maps

set_option maxRecDepth 100000 in
theorem row_chunk : (92 : TypeId) < Tryz.prog.types.size := of_decide_eq_true (by kernel_rfl)
theorem wide_chunk : (match Tryz.prog.underlying 92 with | some (.array _ _) | some (.struct _) => true | _ => false) = true := by rw [Tryz.underlying92]
set_option maxRecDepth 100000 in
theorem key_chunk : Keyed Tryz.prog 92 := Keyed.of_law (deep_law_laid laidOut (m := 2) (by omega) row_chunk (by kernel_rfl) wide_chunk)
/-- What a chunk reads as, as a key. -/
def keyL (c : Ck) : Lit := .string (keyBytes [.int .i64 c.1, .int .i64 c.2])
theorem keyLits_int (d : Nat) (a : Int) (h : I64 a) : Tryz.prog.keyLits (d + 1) 3 [.int .i64 a] = some [.int .i64 a] := by
  unfold Program.keyLits
  rw [Tryz.underlying3]
  have hw : (Lit.int .i64 a).wf = true := by
    have h1 := h.1
    have h2 := h.2
    have e1 : IntKind.i64.min = -9223372036854775808 := rfl
    have e2 : IntKind.i64.max = 9223372036854775807 := rfl
    simp [Lit.wf, e1, e2]
    omega
  simp [hw]
set_option maxRecDepth 100000 in
theorem keyOf_chunk (c : Ck) (h : CkOk c) : keyOf Tryz.prog 92 (ckV c) = some (keyL c) := by
  have hk : Tryz.prog.keyType 92 = true := by kernel_rfl
  have hc : Tryz.prog.cellsOf 92 = 2 := by kernel_rfl
  have ci : Tryz.prog.cellsOf 3 = 1 := by kernel_rfl
  have hf : (ckV c).formed Tryz.prog 92 = true := by simp [ckV, Value.formed, Tryz.underlying92, hc]
  obtain ⟨m, hm⟩ : ∃ m, Tryz.prog.types.size = m + 1 := ⟨_, (Nat.succ_pred_eq_of_pos (Nat.lt_of_le_of_lt (Nat.zero_le _) row_chunk)).symm⟩
  have hl : Tryz.prog.keyLits (Tryz.prog.types.size + 1) 92 (ckV c).cells.toList = some [.int .i64 c.1, .int .i64 c.2] := by
    unfold Program.keyLits
    rw [Tryz.underlying92, hm]
    have e : (ckV c).cells.toList = [.int .i64 c.1, .int .i64 c.2] := by simp [ckV, Value.cells]
    rw [e]
    simp [hc, ci, keyLits_int m c.1 h.1, keyLits_int m c.2 h.2]
  unfold keyOf
  rw [Tryz.underlying92]
  show (if (Tryz.prog.keyType 92 && (ckV c).formed Tryz.prog 92) = true then _ else none) = _
  rw [hk, hf, hl]
  rfl
theorem keyL_inj {c d : Ck} (hc : CkOk c) (hd : CkOk d) (h : keyL c = keyL d) : c = d := by
  have := key_chunk.inj (keyOf_chunk c hc) (h ▸ keyOf_chunk d hd)
  unfold ckV at this
  simp at this
  exact Prod.ext this.1 this.2
theorem zero_unit (w : World) : (zeroValue 252).run Tryz.prog w = .ok (.agg #[]) w := by kernel_rfl
/-- The head's cells. -/
def headV (bud used : Int) (fs : Nat → Value) (ms : List Nat) (bm : Nat) : Array Value :=
  #[.int .i64 bud, .int .i64 used, .map (some bm), fs 0, fs 1, fs 2, fs 3, fs 4, fs 5, .int .i64 (ms.getD 0 0 : Nat), .int .i64 (ms.getD 1 0 : Nat), .int .i64 (ms.getD 2 0 : Nat), .int .i64 (ms.getD 3 0 : Nat), .int .i64 (ms.getD 4 0 : Nat), .int .i64 (ms.getD 5 0 : Nat)]
/-- The numbers of a class that were let go, in order. -/
def goneN (st : Sb) (k : Nat) : List Int := (st.gone.filter fun c => decide (c.1 = (k : Int))).map (·.2)
def intV (l : List Int) : List Value := l.map (Value.int .i64)
abbrev freeP (st : Sb) (fs : Nat → Value) (i : Nat) : Part := rowP 0 3 1 (fs i) (goneN st i).length (intV (goneN st i))
abbrev setP (bm : Nat) (D : DataW Unit) : Part := mapP Tryz.prog 92 unitElem bm D
/-- The slab at block b. -/
def slabP (b bm : Nat) (D : DataW Unit) (fs : Nat → Value) (st : Sb) : Part :=
  (boxP b (.cells (headV st.bud (usedS st) fs st.made bm) 104)).and ((setP bm D).and ((manyP (· < 6) (freeP st fs)).and Part.emp))
/-- What the map has. -/
structure ToldS (D : DataW Unit) (st : Sb) : Prop where
  has : ∀ c, CkOk c → Maps.has D (keyL c) = decide (c ∈ st.inn)
  size : Maps.size D = st.inn.length
def Sl0 (w : World) (b : Nat) (own : Nat → Prop) (st : Sb) : Prop :=
  ∃ bm D fs, own = (slabP b bm D fs st).own ∧ (slabP b bm D fs st).q w ∧ (∀ k, own k → k < w.heap.size) ∧ ToldS D st ∧ GoodS st ∧ I64 st.bud
theorem Sl0.law {w : World} {b : Nat} {own : Nat → Prop} {st : Sb} (h : Sl0 w b own st) : ∃ bm D fs, ToldS D st ∧ LawF own w w (slabP b bm D fs st) := by
  obtain ⟨bm, D, fs, rfl, h2, h3, h4, _⟩ := h
  exact ⟨bm, D, fs, h4, LawF.start h2 h3⟩
theorem head_cells {w : World} {b bm : Nat} {bud used : Int} {fs : Nat → Value} {ms : List Nat} {t : TypeId} (h : w.heap[b]? = some (.cells (headV bud used fs ms bm) t (0, 0))) : w.cell? ⟨b, 0, none⟩ = some (.int .i64 bud) ∧ w.cell? ⟨b, 1, none⟩ = some (.int .i64 used) ∧ w.cell? ⟨b, 2, none⟩ = some (.map (some bm)) ∧ ∀ k, k < 6 → w.cell? ⟨b, 3 + k, none⟩ = some (fs k) ∧ w.cell? ⟨b, 9 + k, none⟩ = some (.int .i64 (ms.getD k 0 : Nat)) := by
  refine ⟨by simp [World.cell?, h, headV], by simp [World.cell?, h, headV], by simp [World.cell?, h, headV], fun k hk => ?_⟩
  have : k = 0 ∨ k = 1 ∨ k = 2 ∨ k = 3 ∨ k = 4 ∨ k = 5 := by omega
  rcases this with rfl | rfl | rfl | rfl | rfl | rfl <;> simp [World.cell?, h, headV]
theorem pair_cells {w : World} {k : Nat} {t : TypeId} {x y : Value} (h : w.heap[k]? = some (.cells #[x, y] t (0, 0))) : w.cell? ⟨k, 0, none⟩ = some x ∧ w.cell? ⟨k, 1, none⟩ = some y := by
  simp [World.cell?, h]
theorem look_unit {w : World} {bm : Nat} {D : DataW Unit} {x : Value} {kl : Lit} {q : Bool} (h : (setP bm D).q w) (hk : keyOf Tryz.prog 92 x = some kl) (hq : Maps.has D kl = q) : (Instr.lookup 99 (.map (some bm)) x true).run Tryz.prog w = .ok (.tuple #[.agg #[], .bool q]) w := by
  have h' : w.ownsMap Tryz.prog 92 unitElem bm (Maps.size D) D := h
  obtain ⟨v, ps, hrun, hv⟩ := h'.look_ok key_chunk Tryz.underlying99 (zero_unit w) unitElem_mk hk
  obtain ⟨rfl, _⟩ := unitElem_inv hv
  rw [hrun, hq]
set_option maxRecDepth 100000 in
set_option maxHeartbeats 4000000 in
theorem has_any {w : World} {b : Nat} {own : Nat → Prop} {st : Sb} (h : Sl0 w b own st) (c : Ck) (hc : CkOk c) :
    Calls Tryz.prog 170 #[.pointer (some ⟨b, 0, none⟩), ckV c] w fun e w' => e = .returned (.bool (decide (c ∈ st.inn))) ∧ w.grownBy w' none := by
  obtain ⟨bm, D, fs, T, L⟩ := h.law
  have HK := hide (keyOf_chunk c hc)
  have HD := hide (T.has c hc)
  clear T h
  unfold ckV at *
  have L1 := ((L.box (.cells #[.int .i64 c.1, .int .i64 c.2] 92))).drew
  obtain ⟨-, -, c14, -⟩ := head_cells L1.q.2.1.1
  obtain ⟨d0, d1⟩ := pair_cells L1.q.1
  have L2 := ((L.box (.cells #[.int .i64 c.1, .int .i64 c.2] 92)).alloc (.cells #[] 252)).drew
  obtain ⟨-, -, c14', -⟩ := head_cells L2.q.2.1.1
  obtain ⟨d0', d1'⟩ := pair_cells L2.q.1
  have r1 := look_unit L1.q.2.1.2.1.1 HK.out HD.out
  have r2 := look_unit L2.q.2.1.2.1.1 HK.out HD.out
  have hg2 : w.grownBy ((w.alloc (.cells #[.int .i64 c.1, .int .i64 c.2] 92)).alloc (.cells #[] 252)).drew none := gr_trans (gr_trans (World.grownBy_alloc w _ none) (World.grownBy_alloc _ _ none)) ⟨rfl, rfl, rfl, Nat.le_refl _, fun _ _ _ => rfl⟩
  generalize decide (c ∈ st.inn) = q at *
  clear HK HD L L1 L2
  go_enter Tryz.func170, Tryz.ntmps170
  go_upto_region 1 with fail
  go_region_held (fun w' => w'.cell? ⟨b, 2, none⟩ = some (.map (some bm)) ∧ w'.cell? ⟨w.heap.size, 0, none⟩ = some (.int .i64 c.1) ∧ w'.cell? ⟨w.heap.size, 1, none⟩ = some (.int .i64 c.2)) (first | exact ⟨c14, d0, d1⟩ | exact ⟨c14', d0', d1'⟩) (fail)
  all_goals
    go_wp2
    go_ret
    exact ⟨rfl, hg2⟩
theorem wrap_id {a : Int} (h : -9223372036854775808 ≤ a ∧ a < 9223372036854775808) : wrap64 a = a := by unfold wrap64; omega
set_option maxHeartbeats 2000000 in
theorem bytes_any (k : Int) (w : World) : Calls Tryz.prog 171 #[.int .i64 k] w fun e w' => e = .returned (.int .i64 (bytesC k)) ∧ w' = w := by
  by_cases h0 : k < 0
  · have e : bytesC k = 0 := by unfold bytesC; repeat' split; all_goals omega
    rw [e]
    go_enter Tryz.func171, Tryz.ntmps171
    go_wp2
    go_ret
    exact ⟨rfl, rfl⟩
  · by_cases h6 : 6 ≤ k
    · have e : bytesC k = 0 := by unfold bytesC; repeat' split; all_goals omega
      rw [e]
      go_enter Tryz.func171, Tryz.ntmps171
      go_wp2
      go_ret
      exact ⟨rfl, rfl⟩
    · have hc : k = 0 ∨ k = 1 ∨ k = 2 ∨ k = 3 ∨ k = 4 ∨ k = 5 := by omega
      clear h0 h6
      rcases hc with rfl | rfl | rfl | rfl | rfl | rfl
      all_goals
        go_enter Tryz.func171, Tryz.ntmps171
        go_wp2
        go_ret
        exact ⟨rfl, rfl⟩
theorem bytes_step (k : Nat) (hk : k < 6) : bytesC k = (64 * 2 ^ k : Nat) := by
  have : k = 0 ∨ k = 1 ∨ k = 2 ∨ k = 3 ∨ k = 4 ∨ k = 5 := by omega
  rcases this with rfl | rfl | rfl | rfl | rfl | rfl <;> rfl
theorem cls_at {size : Int} {k : Nat} (hk : k < 6) (h1 : ∀ j : Nat, j < k → bytesC j < size) (h2 : size ≤ bytesC k) : clsOf size = k ∧ clsErr size = 0 := by
  have : k = 0 ∨ k = 1 ∨ k = 2 ∨ k = 3 ∨ k = 4 ∨ k = 5 := by omega
  rcases this with rfl | rfl | rfl | rfl | rfl | rfl
  · have h2 : size ≤ 64 := h2
    unfold clsOf clsErr
    repeat' split
    all_goals omega
  all_goals
    have e0 := h1 0 (by omega)
    try have e1 := h1 1 (by omega)
    try have e2 := h1 2 (by omega)
    try have e3 := h1 3 (by omega)
    try have e4 := h1 4 (by omega)
    simp only [bytesC] at *
    simp at *
    unfold clsOf clsErr
    repeat' split
    all_goals omega
theorem cls_no6 {size : Int} (h1 : ∀ j : Nat, j < 6 → bytesC j < size) : clsOf size = 0 ∧ clsErr size = 4 := by
  have e5 : (2048 : Int) < size := h1 5 (by omega)
  unfold clsOf clsErr
  repeat' split
  all_goals omega
set_option maxHeartbeats 2000000 in
theorem class_any (size : Int) (w : World) : Calls Tryz.prog 162 #[.int .i64 size] w fun e w' => e = .returned (.tuple #[.int .i64 (clsOf size), .int .i64 (clsErr size)]) ∧ w' = w := by
  go_enter Tryz.func162, Tryz.ntmps162
  go_wp2
  go_loopw [5] (fun i wr => ∃ k : Nat, k ≤ 6 ∧ i = .int .i64 k ∧ (∀ j : Nat, j < k → bytesC j < size) ∧ wr = w) (fun i _ => 6 - (intOf i).toNat)
  case atStart => exact ⟨0, Nat.zero_le _, rfl, fun j hj => by omega, rfl⟩
  case round =>
    obtain ⟨k, hk, rfl, hall, rfl⟩ := hrel
    by_cases hlt : k < 6
    · have hki : (k : Int) < 6 := by omega
      by_cases h2 : size ≤ bytesC k
      · have HC := hide (cls_at hlt hall h2)
        clear hall
        go_wp2_with (go_at_call 171; refine (bytes_any k _).mono ?_; rintro e w1 ⟨rfl, rfl⟩)
        go_ret2
        exact ⟨by rw [HC.out.1, HC.out.2]; rfl, rfl⟩
      · have HC : Hid (∀ j : Nat, j < k + 1 → bytesC j < size) := fun j hj => by
          by_cases e : j = k
          · rw [e]; exact Int.not_le.1 h2
          · exact hall j (by omega)
        have h3 : bytesC k < size := Int.not_le.1 h2
        clear hall h2
        go_wp2_with (go_at_call 171; refine (bytes_any k _).mono ?_; rintro e w1 ⟨rfl, rfl⟩)
        go_roundw
        case rel => exact ⟨k + 1, by omega, by go_num, HC.out, by first | trivial | rfl⟩
        case measure => simp [intOf]; omega
    · obtain rfl : k = 6 := by omega
      have HC := hide (cls_no6 hall)
      clear hall
      go_wp2
      go_ret2
      exact ⟨by rw [HC.out.1, HC.out.2]; rfl, rfl⟩
set_option maxHeartbeats 2000000 in
theorem used_any {w : World} {b : Nat} {own : Nat → Prop} {st : Sb} (h : Sl0 w b own st) : Calls Tryz.prog 84 #[.pointer (some ⟨b, 0, none⟩)] w fun e w' => e = .returned (.int .i64 (usedS st)) ∧ w' = w := by
  obtain ⟨bm, D, fs, T, L⟩ := h.law
  obtain ⟨-, c1, -⟩ := head_cells L.q.1
  go_enter Tryz.func84, Tryz.ntmps84
  go_wp2
  go_ret
  exact ⟨rfl, rfl⟩
set_option maxRecDepth 100000 in
set_option maxHeartbeats 4000000 in
theorem fits_any {w : World} {b : Nat} {own : Nat → Prop} {st : Sb} (h : Sl0 w b own st) (hs : Small st 10000) (size less : Int) (hl : I64 less) : Calls Tryz.prog 192 #[.pointer (some ⟨b, 0, none⟩), .int .i64 size, .int .i64 less] w fun e w' => e = .returned (.bool (fitsS st size less)) ∧ w.grownBy w' none := by
  have hgo : (st.inn = [] ∨ usedS st ≤ st.bud) ∧ I64 st.bud := by obtain ⟨_, _, _, _, _, _, _, hg, hb⟩ := h; exact ⟨hg.bud, hb⟩
  have hub : usedS st = 0 ∨ usedS st ≤ st.bud := hgo.1.imp (fun e => by unfold usedS; rw [e]; rfl) id
  have hbi := hgo.2
  clear hgo
  obtain ⟨bm, D, fs, T, L⟩ := h.law
  obtain ⟨c0, c1, -⟩ := head_cells L.q.1
  have hu := used_bound hs
  have hb0 := bytes_nonneg (clsOf size)
  have hb1 := bytes_le (clsOf size)
  have HF : Hid (fitsS st size less = decide (size ≤ 2048 ∧ 0 ≤ less ∧ less ≤ usedS st ∧ usedS st - less + bytesC (clsOf size) ≤ st.bud)) := rfl
  obtain ⟨er, he⟩ : ∃ e, clsErr size = e := ⟨_, rfl⟩
  obtain ⟨cl, hcl⟩ : ∃ c, clsOf size = c := ⟨_, rfl⟩
  have her : (er = 0 ∧ size ≤ 2048) ∨ (er = 4 ∧ 2048 < size) := by
    rw [← he]
    unfold clsErr
    split
    · exact .inl ⟨rfl, by assumption⟩
    · exact .inr ⟨rfl, by omega⟩
  rw [hcl] at HF hb0 hb1
  generalize usedS st = u at *
  obtain ⟨by_, hby⟩ : ∃ x, bytesC cl = x := ⟨_, rfl⟩
  rw [hby] at HF hb0 hb1
  have HB := hide hby
  have HE := hide he
  have HC := hide hcl
  clear he hcl hby h T
  unfold I64 at hl hbi
  rcases her with ⟨rfl, h1⟩ | ⟨rfl, h1⟩
  · by_cases h2 : less < 0
    · have HF0 : Hid (fitsS st size less = false) := HF.out.trans (decide_eq_false (by omega))
      go_enter Tryz.func192, Tryz.ntmps192
      go_wp2_with (go_at_call 162; refine (class_any size _).mono ?_; rintro e w1 ⟨he, hw⟩; rw [HC.out, HE.out] at he; subst he; subst hw)
      go_ret
      exact ⟨by rw [HF0.out]; rfl, gr_refl _ _⟩
    · by_cases h3 : u < less
      · have HF0 : Hid (fitsS st size less = false) := HF.out.trans (decide_eq_false (by omega))
        go_enter Tryz.func192, Tryz.ntmps192
        go_wp2_with (go_at_call 162; refine (class_any size _).mono ?_; rintro e w1 ⟨he, hw⟩; rw [HC.out, HE.out] at he; subst he; subst hw)
        go_ret
        exact ⟨by rw [HF0.out]; rfl, gr_refl _ _⟩
      · have h2' : 0 ≤ less := Int.not_lt.1 h2
        have h3' : less ≤ u := Int.not_lt.1 h3
        have e1 : wrap64 (u - less) = u - less := wrap_id (by omega)
        have e2 : wrap64 (st.bud - (u - less)) = st.bud - (u - less) := wrap_id (by omega)
        have HD : Hid (fitsS st size less = decide (by_ ≤ st.bud - (u - less))) := HF.out.trans (decide_eq_decide.2 ⟨fun h => by omega, fun h => by omega⟩)
        clear h2 h3
        go_enter Tryz.func192, Tryz.ntmps192
        go_upto_region 4 with (go_at_call 162; refine (class_any size _).mono ?_; rintro e w1 ⟨he, hw⟩; rw [HC.out, HE.out] at he; subst he; subst hw)
        go_quiet ((go_at_call 171; refine Calls.quiet_of_same ((bytes_any (cl : Int) _).mono fun e w' h => ⟨by rw [h.1, HB.out], h.2⟩)))
        go_wp2
        go_ret
        refine ⟨by rw [HD.out]; rfl, ⟨rfl, rfl, rfl, Nat.le_refl _, fun _ _ _ => rfl⟩⟩
  · have HF0 : Hid (fitsS st size less = false) := HF.out.trans (decide_eq_false (by omega))
    go_enter Tryz.func192, Tryz.ntmps192
    go_wp2_with (go_at_call 162; refine (class_any size _).mono ?_; rintro e w1 ⟨he, hw⟩; rw [HC.out, HE.out] at he; subst he; subst hw)
    go_ret
    exact ⟨by rw [HF0.out]; rfl, gr_refl _ _⟩
end Go.Proofs.YtkfeafmpaodagaaGreatDoor

namespace Go.Proofs.YtkfeafmpaodagaaGreatDoor
open Go.RowKit Go.Maps

theorem info_int : (Tryz.prog.info? 3).map (fun i => (i.zero, i.size, i.bytes)) = some (some (.int .i64 0), 1, 8) := by kernel_rfl
theorem Sl0.of {F : Nat → Prop} {w0 w : World} {b bm : Nat} {D : DataW Unit} {fs : Nat → Value} {st : Sb} (L : LawF F w0 w (slabP b bm D fs st)) (T : ToldS D st) (G : GoodS st) (I : I64 st.bud) : Sl0 w b (slabP b bm D fs st).own st := ⟨bm, D, fs, rfl, L.q, fun k hk => (L.lt k hk).1, T, G, I⟩
theorem told_nil (bud : Int) : ToldS (.map []) (freshS bud) := ⟨fun _ _ => rfl, rfl⟩
set_option maxHeartbeats 2000000 in
theorem newS_any (bud : Int) (hb : I64 bud) (w : World) : Calls Tryz.prog 23 #[.int .i64 bud] w fun e w' => ∃ b own, e = .returned (.pointer (some ⟨b, 0, none⟩)) ∧ (∀ k, own k → w.heap.size ≤ k) ∧ Sl0 w' b own (freshS bud) ∧ w.grownBy w' none := by
  have L1 := (LawF.bare w).many0 (I := (· < 6)) (A := freeP (freshS bud) (fun _ => .slice none 0 0)) (fun i _ => World.ownsRow_nil _ _ _ _) (fun i k hk => by cases hk)
  have L2 := L1.mapNew (P := Tryz.prog) (k := 92) (R := unitElem (H := Unit))
  have L3 := L2.box (.cells (headV bud 0 (fun _ => .slice none 0 0) [0, 0, 0, 0, 0, 0] w.heap.size) 104)
  rw [World.size_alloc] at L3
  have hmm := @run_makeMap Tryz.prog
  go_enter Tryz.func23, Tryz.ntmps23
  go_wp2
  go_ret
  refine ⟨_, rfl, _, ?_, Sl0.of (st := freshS bud) L3 (told_nil bud) (good_freshS bud) hb, ?_⟩
  · intro k hk
    exact (L3.lt k hk).2.elim (fun h => h.elim) id
  · exact L3.gr.to (fun k h => h.elim)
def upd (fs : Nat → Value) (k : Nat) (v : Value) : Nat → Value := fun j => if j = k then v else fs j
theorem headV_free (bud used : Int) (fs : Nat → Value) (ms : List Nat) (bm k : Nat) (hk : k < 6) (v : Value) : (headV bud used fs ms bm).setIfInBounds (3 + k) v = headV bud used (upd fs k v) ms bm := by
  have : k = 0 ∨ k = 1 ∨ k = 2 ∨ k = 3 ∨ k = 4 ∨ k = 5 := by omega
  rcases this with rfl | rfl | rfl | rfl | rfl | rfl <;> simp [headV, upd]
theorem headV_used (bud used : Int) (fs : Nat → Value) (ms : List Nat) (bm : Nat) (u : Int) : (headV bud used fs ms bm).setIfInBounds 1 (.int .i64 u) = headV bud u fs ms bm := by simp [headV]
theorem has_del {D : DataW Unit} {st : Sb} (T : ToldS D st) (G : GoodS st) (hm : Maps.Tidy D) {c : Ck} (hc : CkOk c) (hin : c ∈ st.inn) : ToldS (D.del (keyL c)) (freeS st c) := by
  have hnd := (List.nodup_append.1 G.nodup).1
  have hi : (freeS st c).inn = st.inn.erase c := by unfold freeS; rw [if_pos hin]
  refine ⟨fun d hd => ?_, ?_⟩
  · rw [hi]
    by_cases e : d = c
    · subst e
      rw [has_del_same]
      exact (decide_eq_false (fun h => (List.Nodup.mem_erase_iff hnd).1 h |>.1 rfl)).symm
    · rw [has_del_other (fun h => e (keyL_inj hd hc h)), T.has d hd]
      exact decide_eq_decide.2 ⟨fun h => (List.Nodup.mem_erase_iff hnd).2 ⟨e, h⟩, fun h => List.mem_of_mem_erase h⟩
  · have h1 := size_del (k := keyL c) hm
    rw [T.has c hc, decide_eq_true hin, T.size] at h1
    rw [hi, List.length_erase_of_mem hin]
    simp at h1
    omega
theorem gone_free {st : Sb} {k : Nat} {no : Int} (hin : ((k : Int), no) ∈ st.inn) (j : Nat) : goneN (freeS st ((k : Int), no)) j = if j = k then goneN st j ++ [no] else goneN st j := by
  unfold goneN freeS
  rw [if_pos hin]
  show (((st.gone ++ [((k : Int), no)]).filter _).map _) = _
  rw [List.filter_append, List.map_append]
  by_cases e : j = k
  · subst e
    simp
  · rw [if_neg e]
    have : ¬ ((k : Int) = (j : Int)) := by omega
    simp [this]
theorem intV_app (l : List Int) (x : Int) : intV (l ++ [x]) = intV l ++ [.int .i64 x] := by simp [intV]
/-- Behind a number's coming back. -/
theorem many_free {st : Sb} {fs : Nat → Value} {k : Nat} {no : Int} {v : Value} (hin : ((k : Int), no) ∈ st.inn) : turnAt (freeP st fs) k (rowP 0 3 1 v ((goneN st k).length + 1) (intV (goneN st k) ++ [.int .i64 no])) = freeP (freeS st ((k : Int), no)) (upd fs k v) := by
  funext j
  unfold turnAt freeP upd
  rw [gone_free hin]
  by_cases e : j = k
  · subst e
    simp [intV_app]
  · simp [e]
end Go.Proofs.YtkfeafmpaodagaaGreatDoor
