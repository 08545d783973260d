/- What package textin makes of a line that has no fault: its request, with its body. Conditions: at most 5000 keys; bodies of at most 1000 bytes. What package textin makes of a line that has a body. Conditions: bodies of at most 1000 bytes. What package textin's Parse answers: chapter 14's step. Conditions: the listed variables hold what the program's text lays. What package textin's Parse answers of a line of words. Conditions: the listed variables hold what the program's text lays. -/
import Derived.Test.YtgekjakihocgnaaDoorTextW
import Derived.Test.YtgekjakihocgnaaDoorTextN
import Derived.Test.YtgekjakihocgnaaDoorG02Joined
namespace Go.Proofs.YtgekjakihocgnaaDoor
set_option linter.unusedVariables false
open Go.RowKit

def okS (d : Dv) (used : Int) : Sv := ⟨reqD d, ⟨#[]⟩, used, 0, false, 0⟩
section
variable {wB w : World} {n0 D : Nat} {d : Dv} {a va : Option Addr} {c vc : Nat}
theorem ok_cells {n : Nat} (hn : (reqD d).cmds.length = n) (u : Int) (ca : Option Addr) (cc : Nat) : stC (okS d u) ca cc none 0 a c = #[.slice ca n cc, .int .i64 d.dia, .string (mkB d.verb), .int .i64 0, .int .u32 0, .bool d.quiet, .bool d.wcas, .string ⟨#[]⟩, .slice none 0 0, .slice a d.keys.length c, .bool false, .string ⟨#[]⟩, .int .i64 u, .int .i64 0, .bool false, .int .i64 0] := by
  have e : (reqD d).form.keys.length = d.keys.length := List.length_map _
  show #[Value.slice ca (reqD d).cmds.length cc, _, _, _, _, _, _, _, _, Value.slice a (reqD d).form.keys.length c, _, _, _, _, _, _] = _
  rw [hn, e]
  rfl
/-- What finish does. -/
def FinEnd (D : Nat) (s : Sv) (w : World) (e : Ending) (w' : World) : Prop := ∃ cs, e = .returned (.agg cs) ∧ (∀ W' : World, (∀ k, D < k → k < w'.heap.size → W'.heap[k]? = w'.heap[k]?) → w'.heap.size ≤ W'.heap.size → StepAt W' s cs) ∧ Gr (fun k => k = D) w w'
theorem fin_end {W : World} {r : Nat} {old : Array Value} {ca : Option Addr} {cc : Nat} (hr : W.heap[r]? = some (.cells old 34 (0, 0))) (hD1 : D < n0) (hD2 : D < r) (hw : w.heap.size ≤ r) (hg : Gr (fun k => k = D) w W) (ho : W.ownsRow (r + 1) 39 10 (.slice ca (ksD d).length cc) (ksD d).length (cmdsV d va vc (ksD d)))
    (hK : W.ownsRow n0 9 1 (.slice a d.keys.length c) d.keys.length (strL d.keys)) (hKr : ∀ k, (Value.slice a d.keys.length c).ownBlock = some k → k ≠ r) (hV : W.ownsRow (r + 1) 5 1 (.slice va d.val.length vc) d.val.length (byU d.val)) (u : Int) :
    (W.setRow r (stC (okS d u) ca cc none 0 a c)).heap[r]? = some (.cells (stC (okS d u) ca cc none 0 a c) 34 (0, 0)) ∧ FinEnd D (okS d u) w (.returned (.agg (stC (okS d u) ca cc none 0 a c))) (W.setRow r (stC (okS d u) ca cc none 0 a c)) := by
  have so : ∀ k, k ≠ r → (W.setRow r (stC (okS d u) ca cc none 0 a c)).heap[k]? = W.heap[k]? := fun k hk => setRow_other W r k _ hk
  have o2 := own_same ho fun k hk => so k (by have := (own_at ho hk).1; omega)
  have k2 := own_same hK fun k hk => so k (hKr k hk)
  have v2 : ValAt (r + 1) _ va vc d.val := own_same hV fun k hk => so k (by have := (own_at hV hk).1; omega)
  refine ⟨setRow_heap W r old _ _ _ hr, _, rfl, fun W' hs hz => ?_, ⟨hg.os, hg.tape, hg.output, by rw [size_setRow]; exact hg.size, fun k hk hn => (so k (by omega)).trans (hg.block k hk hn)⟩⟩
  have o3 := own_same o2 fun k hk => hs k (by have := (own_at o2 hk).1; omega) (own_at o2 hk).2.1
  have k3 := own_same k2 fun k hk => hs k (by have := (own_at k2 hk).1; omega) (own_at k2 hk).2.1
  have v3 : ValAt (r + 1) W' va vc d.val := own_same v2 fun k hk => hs k (by have := (own_at v2 hk).1; omega) (own_at v2 hk).2.1
  exact ⟨ca, cc, none, 0, a, c, rfl, qat_of o3 k3 v3.bu⟩
theorem bare_end {W : World} {r : Nat} {old : Array Value} {s : Sv} (hs : s.req = noQ) (hr : W.heap[r]? = some (.cells old 34 (0, 0))) (hw : w.heap.size ≤ r) (hg : Gr (fun k => k = D) w W) :
    (W.setRow r (stC s none 0 none 0 none 0)).heap[r]? = some (.cells (stC s none 0 none 0 none 0) 34 (0, 0)) ∧ FinEnd D s w (.returned (.agg (stC s none 0 none 0 none 0))) (W.setRow r (stC s none 0 none 0 none 0)) :=
  ⟨setRow_heap W r old _ _ _ hr, _, rfl, fun W' _ _ => ⟨none, 0, none, 0, none, 0, rfl, by rw [hs]; exact QAt.none_ _⟩, ⟨hg.os, hg.tape, hg.output, by rw [size_setRow]; exact hg.size, fun k hk hn => (setRow_other W r k _ (by omega)).trans (hg.block k hk hn)⟩⟩
theorem gr_d {W : World} (h : w.grownBy W none) : Gr (fun k => k = D) w W := ⟨h.1, h.2, h.3, h.4, fun k hk _ => h.5 k hk (by simp)⟩
set_option maxRecDepth 100000 in
set_option maxHeartbeats 2000000 in
theorem finish_plain (H : Dr wB n0 D w d) (hl : d.keys.length ≤ 5000) (hs : d.sized = false) (ba : Option Addr) (bl bc : Nat) (used : Int) : Calls Tryd.prog 14 #[.pointer (some ⟨D, 0, none⟩), .slice ba bl bc, .int .i64 used] w fun e w' => FinEnd D (okS d used) w e w' := by
  have hlt : D < w.heap.size := Nat.lt_of_lt_of_le H.hi H.sz
  obtain ⟨W0, hW0⟩ : ∃ W0, W0 = w.alloc (.cells #[.slice none 0 0, .int .i64 0, .string ⟨#[]⟩, .int .i64 0, .int .u32 0, .bool false, .bool false, .string ⟨#[]⟩, .slice none 0 0, .slice none 0 0, .bool false, .string ⟨#[]⟩, .int .i64 0, .int .i64 0, .bool false, .int .i64 0] 34) := ⟨_, rfl⟩
  have g0 : w.grownBy W0 none := by rw [hW0]; exact World.grownBy_alloc _ _ _
  have r0 : W0.heap[w.heap.size]? = some (.cells #[.slice none 0 0, .int .i64 0, .string ⟨#[]⟩, .int .i64 0, .int .u32 0, .bool false, .bool false, .string ⟨#[]⟩, .slice none 0 0, .slice none 0 0, .bool false, .string ⟨#[]⟩, .int .i64 0, .int .i64 0, .bool false, .int .i64 0] 34 (0, 0)) := by rw [hW0]; exact World.alloc_heap_new w _
  have hz0 : W0.heap.size = w.heap.size + 1 := by rw [hW0, World.size_alloc]
  obtain ⟨ka, kc, h1, h2⟩ := H.st
  have qz := dr_sized h1
  have qn := dr_size h1
  rw [hs] at qz
  have hv := H.val
  have k0 := own_goes h2 g0
  have HR := hide (request_any ((g0.block D hlt (by simp)).trans h1) k0 (va := none) (vc := 0) (by rw [hv]; exact ⟨rfl, .inl ⟨rfl, rfl, fun _ => rfl⟩, Nat.le_refl _, Nat.zero_le _⟩) hl)
  have HQ0 := hide (fun ca cc => req_cells (d := d) (a := ka) (c := kc) (n := (ksD d).length) (by rw [ksD_cmds, List.length_map]) ca cc)
  have HS := hide (fun ca cc => ok_cells (d := d) (a := ka) (c := kc) (n := (ksD d).length) (by rw [ksD_cmds, List.length_map]) used ca cc)
  have HE := hide (fun (w1 : World) (ca : Option Addr) (cc : Nat) (o1 : w1.ownsRow (W0.heap.size + 1) 39 10 (.slice ca (ksD d).length cc) (ksD d).length (cmdsV d none 0 (ksD d))) (g1 : W0.grownBy w1 none) =>
    fin_end (w := w) (D := D) (n0 := n0) (a := ka) (c := kc) (va := none) (vc := 0) ((g1.block w.heap.size (by omega) (by simp)).trans r0) H.hi hlt (Nat.le_refl _) (gr_d (gr_trans g0 g1)) ⟨o1.1, o1.2.imp id fun ⟨g, cp, cur, x1, x2, x3⟩ => ⟨g, cp, cur, x1, by omega, x3⟩⟩ (own_goes k0 g1) (fun k hk => by have := (own_at h2 hk).2.1; omega) (by rw [hv]; exact World.ownsRow_nil _ _ _ _) used)
  have R0 := hide (fun (w1 : World) (g1 : W0.grownBy w1 none) => (g1.block w.heap.size (by omega) (by simp)).trans r0)
  clear H h1 h2 k0 hv r0 g0 hl hs
  go_enter Tryd.func14, Tryd.ntmps14
  go_wp2_with (first
    | (go_at_call 34; rw [← hW0]; refine HR.out.mono ?_; rintro e w1 ⟨ca, cc, rfl, o1, g1⟩; rw [HQ0.out ca cc]; have E1 := hide (HE.out w1 ca cc o1 g1); have r1 := hide (R0.out w1 g1); clear o1 g1)
    | (refine wpList_store_row rfl 34 _ _ rfl w.heap.size (stC (okS d used) ca cc none 0 ka kc) rfl (by rw [HS.out ca cc]; rfl) _ _ r1.out (step_size _ _ _ _ _ _ _) rfl (step_one _ _ _ _ _ _ _) ?_))
  exact step_ret rfl E1.out.1 rfl rfl E1.out.2
end
end Go.Proofs.YtgekjakihocgnaaDoor

namespace Go.Proofs.YtgekjakihocgnaaDoor
set_option linter.unusedVariables false
open Go.RowKit

theorem set_line (s : Sv) (b : Bool) (ca ta ka : Option Addr) (cc tc kc : Nat) : (stC s ca cc ta tc ka kc).setIfInBounds 14 (.bool b) = stC { s with line := b } ca cc ta tc ka kc := by simp [stC]
theorem set_skip (s : Sv) (z : Int) (ca ta ka : Option Addr) (cc tc kc : Nat) : (stC s ca cc ta tc ka kc).setIfInBounds 13 (.int .i64 z) = stC { s with skip := z } ca cc ta tc ka kc := by simp [stC]
theorem chunk_is : (⟨#[67, 76, 73, 69, 78, 84, 95, 69, 82, 82, 79, 82, 32, 98, 97, 100, 32, 100, 97, 116, 97, 32, 99, 104, 117, 110, 107]⟩ : ByteArray) = mkB t_chunk := rfl
section
variable {wB w : World} {n0 D : Nat} {d : Dv}
set_option maxRecDepth 100000 in
set_option maxHeartbeats 2000000 in
theorem finish_more (H : Dr wB n0 D w d) (hl : d.keys.length ≤ 5000) (hs : d.sized = true) (hk : 0 ≤ d.size ∧ d.size ≤ 1000) {ba : Option Addr} {bl bc : Nat} {rest : List UInt8} (hb : Bu w ba bl bc rest) (used : Int) (hu : 0 ≤ used ∧ used ≤ 9223372036854000000) (he : (bodyN rest d.size).2.2 = 3) : Calls Tryd.prog 14 #[.pointer (some ⟨D, 0, none⟩), .slice ba bl bc, .int .i64 used] w fun e w' => FinEnd D (moreS) w e w' := by
  have hlt : D < w.heap.size := Nat.lt_of_lt_of_le H.hi H.sz
  obtain ⟨W0, hW0⟩ : ∃ W0, W0 = w.alloc (.cells #[.slice none 0 0, .int .i64 0, .string ⟨#[]⟩, .int .i64 0, .int .u32 0, .bool false, .bool false, .string ⟨#[]⟩, .slice none 0 0, .slice none 0 0, .bool false, .string ⟨#[]⟩, .int .i64 0, .int .i64 0, .bool false, .int .i64 0] 34) := ⟨_, rfl⟩
  have g0 : w.grownBy W0 none := by rw [hW0]; exact World.grownBy_alloc _ _ _
  have r0 : W0.heap[w.heap.size]? = some (.cells #[.slice none 0 0, .int .i64 0, .string ⟨#[]⟩, .int .i64 0, .int .u32 0, .bool false, .bool false, .string ⟨#[]⟩, .slice none 0 0, .slice none 0 0, .bool false, .string ⟨#[]⟩, .int .i64 0, .int .i64 0, .bool false, .int .i64 0] 34 (0, 0)) := by rw [hW0]; exact World.alloc_heap_new w _
  have hz0 : W0.heap.size = w.heap.size + 1 := by rw [hW0, World.size_alloc]
  obtain ⟨ka, kc, h1, h2⟩ := H.st
  have qz := dr_sized h1
  have qn := dr_size h1
  rw [hs] at qz
  have HB := hide (body_any (hb.on (below_gr g0)) d.size (by omega))
  have ew : wrap64 d.size = d.size := by unfold wrap64; omega
  have R0 := hide (fun (w1 : World) (g1 : W0.grownBy w1 none) => (g1.block w.heap.size (by omega) (by simp)).trans r0)
  have G0 := hide g0
  have HE := hide (fun (w1 : World) (g1 : W0.grownBy w1 none) => bare_end (w := w) (D := D) (s := moreS) rfl (R0.out w1 g1) (Nat.le_refl _) (gr_d (gr_trans G0.out g1)))
  generalize bodyN rest d.size = x at *
  obtain ⟨x1, x2, x3⟩ := x
  simp only [BodyEnd] at *
  subst he
  clear H h1 h2 r0 g0 hl hs hb hk hu
  go_enter Tryd.func14, Tryd.ntmps14
  go_wp2_with (first
    | (go_at_call 35; rw [← hW0]; refine HB.out.mono ?_; rintro e w1 ⟨a1, c1, rfl, v1, g1⟩; replace v1 := hide v1; replace g1 := hide g1)
    | (refine wpList_store_row rfl 34 _ _ rfl w.heap.size (stC moreS none 0 none 0 none 0) rfl rfl _ _ (R0.out w1 g1.out) (step_size _ _ _ _ _ _ _) rfl (step_one _ _ _ _ _ _ _) ?_))
  exact step_ret rfl (HE.out w1 g1.out).1 rfl rfl (HE.out w1 g1.out).2
set_option maxRecDepth 100000 in
set_option maxHeartbeats 2000000 in
theorem finish_bad (H : Dr wB n0 D w d) (hl : d.keys.length ≤ 5000) (hs : d.sized = true) (hk : 0 ≤ d.size ∧ d.size ≤ 1000) {ba : Option Addr} {bl bc : Nat} {rest : List UInt8} (hb : Bu w ba bl bc rest) (used : Int) (hu : 0 ≤ used ∧ used ≤ 9223372036854000000) (he : (bodyN rest d.size).2.2 = 2) : Calls Tryd.prog 14 #[.pointer (some ⟨D, 0, none⟩), .slice ba bl bc, .int .i64 used] w fun e w' => FinEnd D ({ refuseS t_chunk (used + (bodyN rest d.size).2.1) with line := true }) w e w' := by
  have hlt : D < w.heap.size := Nat.lt_of_lt_of_le H.hi H.sz
  obtain ⟨W0, hW0⟩ : ∃ W0, W0 = w.alloc (.cells #[.slice none 0 0, .int .i64 0, .string ⟨#[]⟩, .int .i64 0, .int .u32 0, .bool false, .bool false, .string ⟨#[]⟩, .slice none 0 0, .slice none 0 0, .bool false, .string ⟨#[]⟩, .int .i64 0, .int .i64 0, .bool false, .int .i64 0] 34) := ⟨_, rfl⟩
  have g0 : w.grownBy W0 none := by rw [hW0]; exact World.grownBy_alloc _ _ _
  have r0 : W0.heap[w.heap.size]? = some (.cells #[.slice none 0 0, .int .i64 0, .string ⟨#[]⟩, .int .i64 0, .int .u32 0, .bool false, .bool false, .string ⟨#[]⟩, .slice none 0 0, .slice none 0 0, .bool false, .string ⟨#[]⟩, .int .i64 0, .int .i64 0, .bool false, .int .i64 0] 34 (0, 0)) := by rw [hW0]; exact World.alloc_heap_new w _
  have hz0 : W0.heap.size = w.heap.size + 1 := by rw [hW0, World.size_alloc]
  obtain ⟨ka, kc, h1, h2⟩ := H.st
  have qz := dr_sized h1
  have qn := dr_size h1
  rw [hs] at qz
  have HB := hide (body_any (hb.on (below_gr g0)) d.size (by omega))
  have ew : wrap64 d.size = d.size := by unfold wrap64; omega
  have R0 := hide (fun (w1 : World) (g1 : W0.grownBy w1 none) => (g1.block w.heap.size (by omega) (by simp)).trans r0)
  have G0 := hide g0
  have hx2 : 0 ≤ (bodyN rest d.size).2.1 ∧ (bodyN rest d.size).2.1 ≤ 1002 := by
    unfold bodyN
    repeat' split
    all_goals simp only []
    all_goals omega
  generalize bodyN rest d.size = x at *
  obtain ⟨x1, x2, x3⟩ := x
  simp only [BodyEnd] at *
  subst he
  have eu : wrap64 (used + x2) = used + x2 := by unfold wrap64; omega
  have HF := hide (fun W => refuse_any t_chunk (by decide) (used + x2) W)
  rw [← chunk_is] at HF
  have HE := hide (fun (w1 : World) (g1 : W0.grownBy w1 none) => bare_end (w := w) (D := D) (s := { refuseS t_chunk (used + x2) with line := true }) rfl (R0.out w1 g1) (Nat.le_refl _) (gr_d (gr_trans G0.out g1)))
  have HL := hide (set_line (refuseS t_chunk (used + x2)) true none none none 0 0 0)
  generalize refuseS t_chunk (used + x2) = y at *
  clear H h1 h2 r0 g0 hl hs hb hk hu hx2
  go_enter Tryd.func14, Tryd.ntmps14
  go_wp2_with (first
    | (go_at_call 35; rw [← hW0]; refine HB.out.mono ?_; rintro e w1 ⟨a1, c1, rfl, v1, g1⟩; replace v1 := hide v1; replace g1 := hide g1)
    | (go_at_call 10; refine (HF.out _).mono ?_; rintro e w2 ⟨rfl, g2⟩; obtain ⟨B, hB⟩ : ∃ B, B = w2.heap.size := ⟨_, rfl⟩; obtain ⟨W2, hW2⟩ : ∃ W2, W2 = w2.alloc (.cells (stC y none 0 none 0 none 0) 34) := ⟨_, rfl⟩; have n2 : W2.heap[B]? = some (.cells (stC y none 0 none 0 none 0) 34 (0, 0)) := (by rw [hW2, hB]; exact World.alloc_heap_new _ _); have k2 : W0.grownBy W2 none := (by rw [hW2]; exact gr_trans g1.out (gr_trans g2 (World.grownBy_alloc _ _ _))); have c2 : W2.cell? ⟨B, 14, none⟩ = some (.bool y.line) := (by unfold World.cell?; rw [n2]; rfl); have f2 : W2.frozen? ⟨B, 14, none⟩ = false := frozen_of_row _ _ _ _ _ n2; have n3 := heap_setCell_same W2 B 14 _ _ (.bool true) n2; rw [HL.out] at n3; have hb2 : W0.heap.size ≤ B := (by rw [hB]; exact Nat.le_trans g1.out.size g2.size); have k3 : W0.grownBy (W2.setCell ⟨B, 14, none⟩ (.bool true)) none := ⟨k2.1, k2.2, k2.3, (by rw [World.size_setCell]; exact k2.size), fun b hb _ => (heap_setCell_other _ _ _ _ (show b ≠ B by omega)).trans (k2.block b hb (by simp))⟩; obtain ⟨W3, hW3⟩ : ∃ W3, W3 = W2.setCell ⟨B, 14, none⟩ (.bool true) := ⟨_, rfl⟩; rw [← hW3] at n3 k3; replace n3 := hide n3; replace k3 := hide k3; have HW3 := hide hW3; clear n2 k2 hW3 g2)
    | (refine wpList_store_row rfl 34 _ _ rfl w2.heap.size (stC y none 0 none 0 none 0) rfl rfl _ _ (World.alloc_heap_new w2 _) (step_size _ _ _ _ _ _ _) rfl (step_one _ _ _ _ _ _ _) ?_; rw [setRow_alloc, ← hW2, ← hB]; clear hW2 hB)
    | (rw [← HW3.out]; refine wpList_load_row rfl 34 _ rfl B rfl _ (stC { y with line := true } none 0 none 0 none 0) _ _ n3.out Tryd.underlying34 rfl (step_size _ _ _ _ _ _ _) ?_)
    | (refine wpList_store_row rfl 34 _ _ rfl w.heap.size (stC { y with line := true } none 0 none 0 none 0) rfl rfl _ _ (R0.out W3 k3.out) (step_size _ _ _ _ _ _ _) rfl (step_one _ _ _ _ _ _ _) ?_))
  exact step_ret rfl (HE.out W3 k3.out).1 rfl rfl (HE.out W3 k3.out).2
/-- Behind the body: the value is stored into the draft, and the request may be made. -/
theorem finish_mid {W0 w1 : World} {d2 : Dv} {ka a1 : Option Addr} {kc c1 : Nat} {x1 : List UInt8} (hlt : D < w.heap.size) (h1 : w.heap[D]? = some (.cells (drC d ka kc none 0) 45 (0, 0))) (h2 : w.ownsRow n0 9 1 (.slice ka d.keys.length kc) d.keys.length (strL d.keys)) (hd2 : d2 = { d with val := x1 }) (hz0 : W0.heap.size = w.heap.size + 1) (g0 : w.grownBy W0 none)
    (R0 : ∀ w1 : World, W0.grownBy w1 none → w1.heap[w.heap.size]? = some (.cells #[.slice none 0 0, .int .i64 0, .string ⟨#[]⟩, .int .i64 0, .int .u32 0, .bool false, .bool false, .string ⟨#[]⟩, .slice none 0 0, .slice none 0 0, .bool false, .string ⟨#[]⟩, .int .i64 0, .int .i64 0, .bool false, .int .i64 0] 34 (0, 0))) (hhi : D < n0) (hl : d.keys.length ≤ 5000) (v1 : ValAt W0.heap.size w1 a1 c1 x1) (g1 : W0.grownBy w1 none) :
    w1.cell? ⟨D, 12, none⟩ = some (.slice none d.val.length 0) ∧ w1.frozen? ⟨D, 12, none⟩ = false ∧
    Calls Tryd.prog 34 #[.pointer (some ⟨D, 0, none⟩)] (w1.setCell ⟨D, 12, none⟩ (.slice a1 x1.length c1)) (fun e w' => ReqEnd d2 ka kc a1 c1 (w1.setCell ⟨D, 12, none⟩ (.slice a1 x1.length c1)) e w') ∧
    Gr (fun k => k = D) w (w1.setCell ⟨D, 12, none⟩ (.slice a1 x1.length c1)) ∧
    (∀ (w3 : World) (ca : Option Addr) (cc : Nat), w3.ownsRow ((w1.setCell ⟨D, 12, none⟩ (.slice a1 x1.length c1)).heap.size + 1) 39 10 (.slice ca (ksD d2).length cc) (ksD d2).length (cmdsV d2 a1 c1 (ksD d2)) → (w1.setCell ⟨D, 12, none⟩ (.slice a1 x1.length c1)).grownBy w3 none → ∀ u : Int,
      w3.heap[w.heap.size]? = some (.cells #[.slice none 0 0, .int .i64 0, .string ⟨#[]⟩, .int .i64 0, .int .u32 0, .bool false, .bool false, .string ⟨#[]⟩, .slice none 0 0, .slice none 0 0, .bool false, .string ⟨#[]⟩, .int .i64 0, .int .i64 0, .bool false, .int .i64 0] 34 (0, 0)) ∧ (w3.setRow w.heap.size (stC (okS d2 u) ca cc none 0 ka kc)).heap[w.heap.size]? = some (.cells (stC (okS d2 u) ca cc none 0 ka kc) 34 (0, 0)) ∧ FinEnd D (okS d2 u) w (.returned (.agg (stC (okS d2 u) ca cc none 0 ka kc))) (w3.setRow w.heap.size (stC (okS d2 u) ca cc none 0 ka kc))) := by
  subst hd2
  have gw := gr_trans g0 g1
  have hs1 := g1.size
  have b1 := (gw.block D hlt (by simp)).trans h1
  have k1 := own_goes h2 gw
  obtain ⟨W, hW⟩ : ∃ W, W = w1.setCell ⟨D, 12, none⟩ (.slice a1 x1.length c1) := ⟨_, rfl⟩
  rw [← hW]
  have hWs : W.heap.size = w1.heap.size := by rw [hW, World.size_setCell]
  have b2 : W.heap[D]? = some (.cells (drC { d with val := x1 } ka kc a1 c1) 45 (0, 0)) := by
    have := heap_setCell_same w1 D 12 _ _ (.slice a1 x1.length c1) b1
    rw [set_val] at this
    rw [hW]
    exact this
  have ho : ∀ k, k ≠ D → W.heap[k]? = w1.heap[k]? := fun k hk => by rw [hW]; exact heap_setCell_other _ _ _ _ hk
  have k2 := own_same k1 fun k hk => ho k (by have := (own_at k1 hk).1; omega)
  have v2 : ValAt W0.heap.size W a1 c1 x1 := own_same v1 fun k hk => ho k (by have := (own_at v1 hk).1; omega)
  have gW : Gr (fun k => k = D) w W := ⟨by rw [hW]; exact gw.1, by rw [hW]; exact gw.2, by rw [hW]; exact gw.3, by rw [hWs]; exact gw.4, fun k hk hn => (ho k hn).trans (gw.5 k hk (by simp))⟩
  refine ⟨dr_val b1, dr_frozen b1 12, request_any b2 k2 v2.bu hl, gW, fun w3 ca cc o3 g3 u => ?_⟩
  have r3 : w3.heap[w.heap.size]? = some (.cells #[.slice none 0 0, .int .i64 0, .string ⟨#[]⟩, .int .i64 0, .int .u32 0, .bool false, .bool false, .string ⟨#[]⟩, .slice none 0 0, .slice none 0 0, .bool false, .string ⟨#[]⟩, .int .i64 0, .int .i64 0, .bool false, .int .i64 0] 34 (0, 0)) := (g3.block w.heap.size (by omega) (by simp)).trans ((ho _ (by omega)).trans (R0 w1 g1))
  have v3 : ValAt W0.heap.size w3 a1 c1 x1 := own_same v2 fun k hk => g3.block k (own_at v2 hk).2.1 (by simp)
  refine ⟨r3, fin_end (w := w) (D := D) (n0 := n0) (a := ka) (c := kc) (va := a1) (vc := c1) r3 hhi hlt (Nat.le_refl _) (gW.trans (gr_d g3)) ⟨o3.1, o3.2.imp id fun ⟨g, cp, cur, z1, z2, z3⟩ => ⟨g, cp, cur, z1, by omega, z3⟩⟩ (own_goes k2 g3) (fun k hk => by have := (own_at h2 hk).2.1; omega) (by rw [← hz0]; exact v3) u⟩
set_option maxRecDepth 100000 in
set_option maxHeartbeats 2000000 in
theorem finish_ok (H : Dr wB n0 D w d) (hl : d.keys.length ≤ 5000) (hs : d.sized = true) (hk : 0 ≤ d.size ∧ d.size ≤ 1000) {ba : Option Addr} {bl bc : Nat} {rest : List UInt8} (hb : Bu w ba bl bc rest) (used : Int) (hu : 0 ≤ used ∧ used ≤ 9223372036854000000) (he : (bodyN rest d.size).2.2 = 0) : Calls Tryd.prog 14 #[.pointer (some ⟨D, 0, none⟩), .slice ba bl bc, .int .i64 used] w fun e w' => FinEnd D (okS { d with val := (bodyN rest d.size).1 } (used + (bodyN rest d.size).2.1)) w e w' := by
  have hlt : D < w.heap.size := Nat.lt_of_lt_of_le H.hi H.sz
  obtain ⟨W0, hW0⟩ : ∃ W0, W0 = w.alloc (.cells #[.slice none 0 0, .int .i64 0, .string ⟨#[]⟩, .int .i64 0, .int .u32 0, .bool false, .bool false, .string ⟨#[]⟩, .slice none 0 0, .slice none 0 0, .bool false, .string ⟨#[]⟩, .int .i64 0, .int .i64 0, .bool false, .int .i64 0] 34) := ⟨_, rfl⟩
  have g0 : w.grownBy W0 none := by rw [hW0]; exact World.grownBy_alloc _ _ _
  have r0 : W0.heap[w.heap.size]? = some (.cells #[.slice none 0 0, .int .i64 0, .string ⟨#[]⟩, .int .i64 0, .int .u32 0, .bool false, .bool false, .string ⟨#[]⟩, .slice none 0 0, .slice none 0 0, .bool false, .string ⟨#[]⟩, .int .i64 0, .int .i64 0, .bool false, .int .i64 0] 34 (0, 0)) := by rw [hW0]; exact World.alloc_heap_new w _
  have hz0 : W0.heap.size = w.heap.size + 1 := by rw [hW0, World.size_alloc]
  obtain ⟨ka, kc, h1, h2⟩ := H.st
  have qz := dr_sized h1
  have qn := dr_size h1
  rw [hs] at qz
  have HB := hide (body_any (hb.on (below_gr g0)) d.size (by omega))
  have ew : wrap64 d.size = d.size := by unfold wrap64; omega
  have R0 := hide (fun (w1 : World) (g1 : W0.grownBy w1 none) => (g1.block w.heap.size (by omega) (by simp)).trans r0)
  have G0 := hide g0
  have hx2 : 0 ≤ (bodyN rest d.size).2.1 ∧ (bodyN rest d.size).2.1 ≤ 1002 := by
    unfold bodyN
    repeat' split
    all_goals simp only []
    all_goals omega
  generalize bodyN rest d.size = x at *
  obtain ⟨x1, x2, x3⟩ := x
  simp only [BodyEnd] at *
  subst he
  have eu : wrap64 (used + x2) = used + x2 := by unfold wrap64; omega
  obtain ⟨d2, hd2⟩ : ∃ d2 : Dv, d2 = { d with val := x1 } := ⟨_, rfl⟩
  rw [← hd2]
  have hks : d2.keys = d.keys := by rw [hd2]
  have hvl : d2.val = x1 := by rw [hd2]
  have HQ0 := hide (fun ca cc => req_cells (d := d2) (a := ka) (c := kc) (n := (ksD d2).length) (by rw [ksD_cmds, List.length_map]) ca cc)
  have HS := hide (fun ca cc => ok_cells (d := d2) (a := ka) (c := kc) (n := (ksD d2).length) (by rw [ksD_cmds, List.length_map]) (used + x2) ca cc)
  have HX := hide (fun (w1 : World) (a1 : Option Addr) (c1 : Nat) (v1 : ValAt W0.heap.size w1 a1 c1 x1) (g1 : W0.grownBy w1 none) => finish_mid (d := d) (d2 := d2) hlt h1 h2 hd2 hz0 G0.out R0.out H.hi hl v1 g1)
  clear H h1 h2 r0 g0 hl hs hb hk hu hx2 hks hvl hd2
  go_enter Tryd.func14, Tryd.ntmps14
  go_wp2_with (first
    | (go_at_call 35; rw [← hW0]; refine HB.out.mono ?_; rintro e w1 ⟨a1, c1, rfl, v1, g1⟩; obtain ⟨q12, q13, n2, k2, E2⟩ := HX.out w1 a1 c1 v1 g1; replace n2 := hide n2; replace E2 := hide E2; replace k2 := hide k2)
    | (go_at_call 34; refine n2.out.mono ?_; rintro e w3 ⟨ca, cc, rfl, o3, g3⟩; rw [HQ0.out ca cc]; obtain ⟨r3, E3⟩ := E2.out w3 ca cc o3 g3 (used + x2); replace r3 := hide r3; replace E3 := hide E3; clear o3 g3)
    | (refine wpList_store_row rfl 34 _ _ rfl w.heap.size (stC (okS d2 (used + x2)) ca cc none 0 ka kc) rfl (by rw [HS.out ca cc]; rfl) _ _ r3.out (step_size _ _ _ _ _ _ _) rfl (step_one _ _ _ _ _ _ _) ?_))
  exact step_ret rfl E3.out.1 rfl rfl E3.out.2
theorem finish_any (H : Dr wB n0 D w d) (hl : d.keys.length ≤ 5000) (hk : 0 ≤ d.size ∧ d.size ≤ 1000) {ba : Option Addr} {bl bc : Nat} {rest : List UInt8} (hb : Bu w ba bl bc rest) (used : Int) (hu : 0 ≤ used ∧ used ≤ 9223372036854000000) : Calls Tryd.prog 14 #[.pointer (some ⟨D, 0, none⟩), .slice ba bl bc, .int .i64 used] w fun e w' => FinEnd D (finishN d rest used) w e w' := by
  unfold finishN
  cases hs : d.sized
  · rw [if_pos rfl]
    exact finish_plain H hl hs ba bl bc used
  · rw [if_neg (by simp)]
    rcases body_ways rest d.size with he | he | he
    · rw [if_pos he]
      exact finish_more H hl hs hk hb used hu he
    · rw [if_neg (by omega), if_pos he]
      exact finish_bad H hl hs hk hb used hu he
    · rw [if_neg (by omega), if_neg (by omega)]
      have := finish_ok H hl hs hk hb used hu he
      unfold okS at this
      rw [hs] at this
      exact this
end
end Go.Proofs.YtgekjakihocgnaaDoor

namespace Go.Proofs.YtgekjakihocgnaaDoor
set_option linter.unusedVariables false
open Go.RowKit

theorem StepAt.q {w : World} {s : Sv} {ca ta ka : Option Addr} {cc tc kc : Nat} (h : StepAt w s (stC s ca cc ta tc ka kc)) : QAt w s.req ca cc ta tc ka kc := by
  obtain ⟨ca', cc', ta', tc', ka', kc', e, hq⟩ := h
  have h0 : some (Value.slice ca s.req.cmds.length cc) = some (Value.slice ca' s.req.cmds.length cc') := congrArg (fun x : Array Value => x[0]?) e
  have h8 : some (Value.slice ta s.req.form.toks.length tc) = some (Value.slice ta' s.req.form.toks.length tc') := congrArg (fun x : Array Value => x[8]?) e
  have h9 : some (Value.slice ka s.req.form.keys.length kc) = some (Value.slice ka' s.req.form.keys.length kc') := congrArg (fun x : Array Value => x[9]?) e
  obtain ⟨rfl, -, rfl⟩ := Value.slice.inj (Option.some.inj h0)
  obtain ⟨rfl, -, rfl⟩ := Value.slice.inj (Option.some.inj h8)
  obtain ⟨rfl, -, rfl⟩ := Value.slice.inj (Option.some.inj h9)
  exact hq
/-- What Parse does: a step whose rows are all new. -/
def ParseEnd (s : Sv) (w : World) (e : Ending) (w' : World) : Prop := ∃ ca cc ta tc ka kc, e = .returned (.agg (stC s ca cc ta tc ka kc)) ∧ (∀ W' : World, (∀ k, w.heap.size ≤ k → k < w'.heap.size → W'.heap[k]? = w'.heap[k]?) → w'.heap.size ≤ W'.heap.size → QAt W' s.req ca cc ta tc ka kc) ∧ w.grownBy w' none
theorem ParseEnd.up {s : Sv} {w w1 w' : World} {e : Ending} (h : ParseEnd s w1 e w') (hg : w.grownBy w1 none) : ParseEnd s w e w' := by
  obtain ⟨ca, cc, ta, tc, ka, kc, h1, h2, h3⟩ := h
  exact ⟨ca, cc, ta, tc, ka, kc, h1, fun W' hs hz => h2 W' (fun k hk => hs k (Nat.le_trans hg.size hk)) hz, gr_trans hg h3⟩
section
variable {w : World} {a : Option Addr} {len cap : Nat} {l : List UInt8}
theorem pbare_end {W : World} {old : Array Value} {s : Sv} (hs : s.req = noQ) (hr : W.heap[w.heap.size]? = some (.cells old 34 (0, 0))) (hg : w.grownBy W none) :
    (W.setRow w.heap.size (stC s none 0 none 0 none 0)).heap[w.heap.size]? = some (.cells (stC s none 0 none 0 none 0) 34 (0, 0)) ∧ ParseEnd s w (.returned (.agg (stC s none 0 none 0 none 0))) (W.setRow w.heap.size (stC s none 0 none 0 none 0)) :=
  ⟨setRow_heap W _ old _ _ _ hr, none, 0, none, 0, none, 0, rfl, fun W' _ _ => by rw [hs]; exact QAt.none_ _, ⟨hg.os, hg.tape, hg.output, by rw [size_setRow]; exact hg.size, fun k hk hn => (setRow_other W _ k _ (by omega)).trans (hg.block k hk hn)⟩⟩
/-- A step in a block of its own, of which one cell is set. -/
theorem cell_mid {W0 w1 w2 W2 : World} {B j : Nat} {s s' : Sv} {v x : Value} (hW2 : W2 = w2.alloc (.cells (stC s none 0 none 0 none 0) 34)) (hB : B = w2.heap.size) (g1 : W0.grownBy w1 none) (g2 : w1.grownBy w2 none) (hx : (stC s none 0 none 0 none 0)[j]? = some x) (hS : (stC s none 0 none 0 none 0).setIfInBounds j v = stC s' none 0 none 0 none 0) :
    W2.cell? ⟨B, j, none⟩ = some x ∧ W2.frozen? ⟨B, j, none⟩ = false ∧ (W2.setCell ⟨B, j, none⟩ v).heap[B]? = some (.cells (stC s' none 0 none 0 none 0) 34 (0, 0)) ∧ W0.grownBy (W2.setCell ⟨B, j, none⟩ v) none := by
  have n2 : W2.heap[B]? = some (.cells (stC s none 0 none 0 none 0) 34 (0, 0)) := by rw [hW2, hB]; exact World.alloc_heap_new _ _
  have k2 : W0.grownBy W2 none := by rw [hW2]; exact gr_trans g1 (gr_trans g2 (World.grownBy_alloc _ _ _))
  have n3 := heap_setCell_same W2 B j _ _ v n2
  rw [hS] at n3
  have hb2 : W0.heap.size ≤ B := by rw [hB]; exact Nat.le_trans g1.size g2.size
  exact ⟨by unfold World.cell?; rw [n2]; exact hx, frozen_of_row _ _ _ _ _ n2, n3, ⟨k2.1, k2.2, k2.3, by rw [World.size_setCell]; exact k2.size, fun b hb _ => (heap_setCell_other _ _ _ _ (show b ≠ B by omega)).trans (k2.block b hb (by simp))⟩⟩
set_option maxRecDepth 100000 in
set_option maxHeartbeats 2000000 in
theorem parse_more (h : Bu w a len cap l) (he : (lineN l).2.2 = 3) : Calls Tryd.prog 6 #[.slice a len cap] w fun e w' => ParseEnd moreS w e w' := by
  obtain ⟨W0, hW0⟩ : ∃ W0, W0 = w.alloc (.cells #[.slice none 0 0, .int .i64 0, .string ⟨#[]⟩, .int .i64 0, .int .u32 0, .bool false, .bool false, .string ⟨#[]⟩, .slice none 0 0, .slice none 0 0, .bool false, .string ⟨#[]⟩, .int .i64 0, .int .i64 0, .bool false, .int .i64 0] 34) := ⟨_, rfl⟩
  have g0 : w.grownBy W0 none := by rw [hW0]; exact World.grownBy_alloc _ _ _
  have r0 : W0.heap[w.heap.size]? = some (.cells #[.slice none 0 0, .int .i64 0, .string ⟨#[]⟩, .int .i64 0, .int .u32 0, .bool false, .bool false, .string ⟨#[]⟩, .slice none 0 0, .slice none 0 0, .bool false, .string ⟨#[]⟩, .int .i64 0, .int .i64 0, .bool false, .int .i64 0] 34 (0, 0)) := by rw [hW0]; exact World.alloc_heap_new w _
  have hz0 : W0.heap.size = w.heap.size + 1 := by rw [hW0, World.size_alloc]
  have R0 := hide (fun (w1 : World) (g1 : W0.grownBy w1 none) => (g1.block w.heap.size (by omega) (by simp)).trans r0)
  have G0 := hide g0
  have HL := hide (line_any (h.on (below_gr g0)))
  have HE := hide (fun (w1 : World) (g1 : W0.grownBy w1 none) => pbare_end (w := w) (s := moreS) rfl (R0.out w1 g1) (gr_trans G0.out g1))
  generalize lineN l = x at *
  obtain ⟨x1, x2, x3⟩ := x
  simp only [lineV] at *
  subst he
  clear h r0 g0
  go_enter Tryd.func6, Tryd.ntmps6
  go_wp2_with (first
    | (go_at_call 9; rw [← hW0]; refine HL.out.mono ?_; rintro e w1 ⟨rfl, g1⟩; replace g1 := hide g1)
    | (refine wpList_store_row rfl 34 _ _ rfl w.heap.size (stC moreS none 0 none 0 none 0) rfl rfl _ _ (R0.out w1 g1.out) (step_size _ _ _ _ _ _ _) rfl (step_one _ _ _ _ _ _ _) ?_))
  exact step_ret rfl (HE.out w1 g1.out).1 rfl rfl (HE.out w1 g1.out).2
theorem long_is : (⟨#[67, 76, 73, 69, 78, 84, 95, 69, 82, 82, 79, 82, 32, 108, 105, 110, 101, 32, 116, 111, 111, 32, 108, 111, 110, 103]⟩ : ByteArray) = mkB t_long := rfl
/-- The last byte of a line that is too long. -/
theorem long_last (he : (lineN l).2.2 = 4) : ∃ u : Nat, ∃ hu : u < l.length, (lineN l).2.1 = (u : Int) + 1 ∧ (((l[u]'hu).toNat : Int) != 10) = (cutL l).isNone := by
  rcases feeds l with hf | ⟨p, r, rfl, hf⟩
  · rw [lineN_no hf] at he ⊢
    rw [cutL_no l hf]
    split at he
    · rename_i h1
      rw [if_pos h1]
      refine ⟨l.length - 1, by omega, by simp only []; omega, ?_⟩
      have hne : l[l.length - 1]'(by omega) ≠ 10 := fun e => hf (by rw [← e]; exact List.getElem_mem _)
      have : ((l[l.length - 1]'(by omega)).toNat : Int) ≠ 10 := fun e => hne (by apply UInt8.toNat_inj.1; have : (10 : UInt8).toNat = 10 := rfl; omega)
      simpa using this
    · simp at he
  · rw [lineN_of hf] at he ⊢
    rw [cutL_of p r hf]
    split at he
    · rename_i h1
      rw [if_pos h1]
      refine ⟨p.length, by simp, rfl, ?_⟩
      simp
    · simp at he
set_option maxRecDepth 100000 in
set_option maxHeartbeats 2000000 in
theorem parse_long (h : Bu w a len cap l) (he : (lineN l).2.2 = 4) : Calls Tryd.prog 6 #[.slice a len cap] w fun e w' => ParseEnd { refuseS t_long (lineN l).2.1 with line := (cutL l).isNone } w e w' := by
  obtain ⟨W0, hW0⟩ : ∃ W0, W0 = w.alloc (.cells #[.slice none 0 0, .int .i64 0, .string ⟨#[]⟩, .int .i64 0, .int .u32 0, .bool false, .bool false, .string ⟨#[]⟩, .slice none 0 0, .slice none 0 0, .bool false, .string ⟨#[]⟩, .int .i64 0, .int .i64 0, .bool false, .int .i64 0] 34) := ⟨_, rfl⟩
  have g0 : w.grownBy W0 none := by rw [hW0]; exact World.grownBy_alloc _ _ _
  have r0 : W0.heap[w.heap.size]? = some (.cells #[.slice none 0 0, .int .i64 0, .string ⟨#[]⟩, .int .i64 0, .int .u32 0, .bool false, .bool false, .string ⟨#[]⟩, .slice none 0 0, .slice none 0 0, .bool false, .string ⟨#[]⟩, .int .i64 0, .int .i64 0, .bool false, .int .i64 0] 34 (0, 0)) := by rw [hW0]; exact World.alloc_heap_new w _
  have hz0 : W0.heap.size = w.heap.size + 1 := by rw [hW0, World.size_alloc]
  have R0 := hide (fun (w1 : World) (g1 : W0.grownBy w1 none) => (g1.block w.heap.size (by omega) (by simp)).trans r0)
  have G0 := hide g0
  have HL := hide (line_any (h.on (below_gr g0)))
  obtain ⟨u, hu, hx2, hlast⟩ := long_last he
  have hn := h.n
  have hc := h.c
  have hm := h.m
  unfold maxLen at hm
  obtain ⟨ab, ao, rfl, hcell⟩ := h.cell (by omega)
  have cu := fun (W : World) (hb : w.grownBy W none) => (((below_gr hb).cell (p := ⟨ab, ao + u, none⟩) (World.block_lt_of_cell? w _ (hcell u hu))).trans (hcell u hu))
  generalize (cutL l).isNone = last at *
  obtain ⟨cb, hcb⟩ : ∃ cb : Int, cb = ((l[u]'hu).toNat : Int) := ⟨_, rfl⟩
  rw [← hcb] at hlast cu
  generalize lineN l = x at *
  obtain ⟨x1, x2, x3⟩ := x
  simp only [lineV] at *
  subst he hx2
  have HF := hide (fun W => refuse_any t_long (by decide) ((u : Int) + 1) W)
  rw [← long_is] at HF
  have HE := hide (fun (w1 : World) (g1 : W0.grownBy w1 none) => pbare_end (w := w) (s := { refuseS t_long ((u : Int) + 1) with line := last }) rfl (R0.out w1 g1) (gr_trans G0.out g1))
  have HS := hide (set_line (refuseS t_long ((u : Int) + 1)) last none none none 0 0 0)
  generalize refuseS t_long ((u : Int) + 1) = y at *
  have hui : (u : Int) < (len : Int) := by omega
  have e1 : wrap64 ((u : Int) + 1 - 1) = (u : Int) := by unfold wrap64; omega
  have e2 : wrap64 (u : Int) = (u : Int) := by unfold wrap64; omega
  have HCU := hide cu
  clear h r0 g0 hcell hcb cu hn hc hm
  go_enter Tryd.func6, Tryd.ntmps6
  go_wp2_with (first
    | (go_at_call 9; rw [← hW0]; refine HL.out.mono ?_; rintro e w1 ⟨rfl, g1⟩; replace g1 := hide g1)
    | (go_at_call 10; refine (HF.out _).mono ?_; rintro e w2 ⟨rfl, g2⟩; obtain ⟨B, hB⟩ : ∃ B, B = w2.heap.size := ⟨_, rfl⟩; obtain ⟨W2, hW2⟩ : ∃ W2, W2 = w2.alloc (.cells (stC y none 0 none 0 none 0) 34) := ⟨_, rfl⟩; have kk : w.grownBy W2 none := (by rw [hW2]; exact gr_trans G0.out (gr_trans g1.out (gr_trans g2 (World.grownBy_alloc _ _ _)))); have q2 := HCU.out W2 kk; obtain ⟨c2, f2, n3, k3⟩ := cell_mid (j := 14) (v := .bool last) hW2 hB g1.out g2 rfl HS.out; obtain ⟨W3, hW3⟩ : ∃ W3, W3 = W2.setCell ⟨B, 14, none⟩ (.bool last) := ⟨_, rfl⟩; rw [← hW3] at n3 k3; replace n3 := hide n3; replace k3 := hide k3; have HW3 := hide hW3; clear hW3 g2 kk)
    | (refine wpList_store_row rfl 34 _ _ rfl w2.heap.size (stC y none 0 none 0 none 0) rfl rfl _ _ (World.alloc_heap_new w2 _) (step_size _ _ _ _ _ _ _) rfl (step_one _ _ _ _ _ _ _) ?_; rw [setRow_alloc, ← hW2, ← hB]; clear hW2 hB)
    | (rw [← HW3.out]; refine wpList_load_row rfl 34 _ rfl B rfl _ (stC { y with line := last } none 0 none 0 none 0) _ _ n3.out Tryd.underlying34 rfl (step_size _ _ _ _ _ _ _) ?_)
    | (refine wpList_store_row rfl 34 _ _ rfl w.heap.size (stC { y with line := last } none 0 none 0 none 0) rfl rfl _ _ (R0.out W3 k3.out) (step_size _ _ _ _ _ _ _) rfl (step_one _ _ _ _ _ _ _) ?_))
  exact step_ret rfl (HE.out W3 k3.out).1 rfl rfl (HE.out W3 k3.out).2
end
end Go.Proofs.YtgekjakihocgnaaDoor

namespace Go.Proofs.YtgekjakihocgnaaDoor
set_option linter.unusedVariables false
open Go.RowKit

def zeroDr : Array Value := #[.int .i64 0, .string ⟨#[]⟩, .int .i64 0, .int .u32 0, .bool false, .bool false, .string ⟨#[]⟩, .slice none 0 0, .slice none 0 0, .bool false, .int .i64 0, .string ⟨#[]⟩, .slice none 0 0, .int .u32 0, .int .i64 0, .int .u64 0, .int .u64 0, .int .u64 0, .bool false, .bool false, .int .u64 0, .bool false]
section
variable {w : World} {a : Option Addr} {len cap : Nat} {l : List UInt8}
theorem gathered_gr {w1 w2 : World} (b2 : Below (w1.alloc (.cells zeroDr 45)).heap.size (w1.alloc (.cells zeroDr 45)) w2) : w1.grownBy w2 none := gr_trans (World.grownBy_alloc _ _ _) (gr_of_below b2)
/-- The words are gathered: they may be read. -/
theorem gathered {w1 w2 : World} {v : Value} {x1 : List UInt8} (hL : Laid w1) (hx : x1.length ≤ 2048) (o2 : w2.ownsRow (w1.alloc (.cells zeroDr 45)).heap.size 9 1 v (wordsB ⟨x1.toArray⟩).length ((wordsB ⟨x1.toArray⟩).map Value.string)) (b2 : Below (w1.alloc (.cells zeroDr 45)).heap.size (w1.alloc (.cells zeroDr 45)) w2) :
    ∃ wa wc, v = .slice wa (wordsL x1).length wc ∧ Calls Tryd.prog 11 #[.pointer (some ⟨w1.heap.size, 0, none⟩), .slice wa (wordsL x1).length wc] w2 fun e w' => ReadsEnd w1 w1.heap.size w2 (readN (wordsL x1)) e w' := by
  have hs : (w1.alloc (.cells zeroDr 45)).heap.size = w1.heap.size + 1 := World.size_alloc _ _
  have hb := b2.size
  have ew : wordsB ⟨x1.toArray⟩ = (wordsL x1).map mkB := by rw [wordsB_L]
  rw [ew, List.length_map, List.map_map] at o2
  have hwl := wordsL_len x1
  obtain ⟨wa, wc, rfl⟩ := own_shape o2
  have hd : w2.heap[w1.heap.size]? = some (.cells zeroDr 45 (0, 0)) := (b2.block _ (by omega)).trans (World.alloc_heap_new _ _)
  have H : Dr w1 w2.heap.size w1.heap.size w2 zeroD := ⟨below_gr (gathered_gr b2), Nat.le_refl _, by omega, Nat.le_refl _, rfl, ⟨none, 0, hd, World.ownsRow_nil _ _ _ _⟩, fun _ => hd⟩
  have hW : Wu (fun b => b ≠ w1.heap.size) w2 wa (wordsL x1).length wc (wordsL x1) := by
    refine ⟨rfl, (own_cap o2).1, (own_cap o2).2, fun e => ?_, ?_⟩
    · subst e
      rcases o2.2 with ⟨h3, _⟩ | ⟨g, cp, cur, h3, _⟩
      · exact (Value.slice.inj h3).2.2
      · cases h3
    · by_cases h0 : (wordsL x1).length = 0
      · exact .inl h0
      · obtain ⟨g, cp, e⟩ := own_form o2 (by omega)
        cases e
        have hat := own_at o2 rfl
        refine .inr ⟨g, 0, rfl, ?_, hat.2.1, fun i hi => ?_⟩
        · have h1 : (w1.alloc (.cells zeroDr 45)).heap.size ≤ g := hat.1
          omega
        · rw [Nat.zero_add, o2.cellAt i (by omega), List.getElem?_map, List.getElem?_eq_getElem hi]
          rfl
  exact ⟨wa, wc, rfl, read_any hL H hW (by omega) fun y hy => by have := wordsL_each x1 y hy; omega⟩
theorem gr_over {D : Nat} {W0 w1 w2 w3 : World} (h : W0.grownBy w1 none) (k : w1.grownBy w2 none) (g : Gr (fun k => k = D) w2 w3) (hD : w1.heap.size ≤ D) : W0.grownBy w3 none :=
  ⟨g.os.trans (k.os.trans h.os), g.tape.trans (k.tape.trans h.tape), g.output.trans (k.output.trans h.output), Nat.le_trans h.size (Nat.le_trans k.size g.size), fun b hb _ => by
    have h1 := h.size
    have h2 := k.size
    exact (g.block b (by omega) (by omega)).trans ((k.block b (by omega) (by simp)).trans (h.block b hb (by simp)))⟩
set_option maxRecDepth 100000 in
set_option maxHeartbeats 2000000 in
theorem parse_fault (hLd : Laid w) (h : Bu w a len cap l) (he : (lineN l).2.2 = 0) (hx1 : (lineN l).1.length ≤ 2048) (hf : (readN (wordsL (lineN l).1)).2 ≠ []) : Calls Tryd.prog 6 #[.slice a len cap] w fun e w' => ParseEnd { refuseS (readN (wordsL (lineN l).1)).2 (lineN l).2.1 with skip := skipN (readN (wordsL (lineN l).1)).1 } w e w' := by
  obtain ⟨W0, hW0⟩ : ∃ W0, W0 = w.alloc (.cells #[.slice none 0 0, .int .i64 0, .string ⟨#[]⟩, .int .i64 0, .int .u32 0, .bool false, .bool false, .string ⟨#[]⟩, .slice none 0 0, .slice none 0 0, .bool false, .string ⟨#[]⟩, .int .i64 0, .int .i64 0, .bool false, .int .i64 0] 34) := ⟨_, rfl⟩
  have g0 : w.grownBy W0 none := by rw [hW0]; exact World.grownBy_alloc _ _ _
  have r0 : W0.heap[w.heap.size]? = some (.cells #[.slice none 0 0, .int .i64 0, .string ⟨#[]⟩, .int .i64 0, .int .u32 0, .bool false, .bool false, .string ⟨#[]⟩, .slice none 0 0, .slice none 0 0, .bool false, .string ⟨#[]⟩, .int .i64 0, .int .i64 0, .bool false, .int .i64 0] 34 (0, 0)) := by rw [hW0]; exact World.alloc_heap_new w _
  have hz0 : W0.heap.size = w.heap.size + 1 := by rw [hW0, World.size_alloc]
  have R0 := hide (fun (w1 : World) (g1 : W0.grownBy w1 none) => (g1.block w.heap.size (by omega) (by simp)).trans r0)
  have G0 := hide g0
  have HL := hide (line_any (h.on (below_gr g0)))
  generalize lineN l = x at *
  obtain ⟨x1, x2, x3⟩ := x
  simp only [lineV] at *
  subst he
  have HX : Hid ((⟨x1.toArray⟩ : ByteArray).size ≤ 5000) := by show (⟨x1.toArray⟩ : ByteArray).size ≤ 5000; have := size_mk x1; unfold mkB at this; omega
  obtain ⟨hk1, hk2, hk3⟩ := readN_ok (wordsL x1)
  obtain ⟨r, hr⟩ : ∃ r, readN (wordsL x1) = r := ⟨_, rfl⟩
  have HRD := hide hr
  rw [hr] at hk1 hk2 hf ⊢
  obtain ⟨d, f⟩ := r
  simp only [] at hk1 hk2 hf
  have HF := hide (fun W => refuse_any f hk2.len x2 W)
  have HE := hide (fun (w1 : World) (g1 : W0.grownBy w1 none) => pbare_end (w := w) (s := { refuseS f x2 with skip := skipN d }) rfl (R0.out w1 g1) (gr_trans G0.out g1))
  have HS := hide (set_skip (refuseS f x2) (skipN d) none none none 0 0 0)
  have HSZ := hide hk1.size
  simp only []
  generalize refuseS f x2 = y at *
  obtain ⟨c, t, rfl⟩ := List.exists_cons_of_ne_nil hf
  clear h r0 g0 hr hk1 hk2 hk3 hf
  go_enter Tryd.func6, Tryd.ntmps6
  go_wp2_with (first
    | (go_at_call 9; rw [← hW0]; refine HL.out.mono ?_; rintro e w1 ⟨rfl, g1⟩; have M1 := hide (fun (w2 : World) (v : Value) => gathered (w1 := w1) (w2 := w2) (v := v) (x1 := x1) (hLd.on (below_gr (gr_trans G0.out g1))) hx1); replace g1 := hide g1)
    | (go_at_call 12; refine (gather_any ⟨x1.toArray⟩ HX.out _).mono ?_; rintro e w2 ⟨v2, rfl, o2, b2⟩; obtain ⟨wa, wc, rfl, C2⟩ := M1.out w2 v2 o2 b2; have k2 := hide (gathered_gr b2); replace C2 := hide C2; clear o2 b2 M1)
    | (go_at_call 11; refine C2.out.mono ?_; rw [HRD.out]; rintro e w3 ⟨rfl, ⟨n1, K3⟩, k3⟩; have g3 := hide (gr_over g1.out k2.out k3 (Nat.le_refl _)); replace K3 := hide K3; clear k3 C2; simp only [mkB])
    | (go_at_call 10; have t1 := g3; clear t1; refine (HF.out _).mono ?_; rintro e w4 ⟨rfl, g4⟩; obtain ⟨B, hB⟩ : ∃ B, B = w4.heap.size := ⟨_, rfl⟩; obtain ⟨W2, hW2⟩ : ∃ W2, W2 = w4.alloc (.cells (stC y none 0 none 0 none 0) 34) := ⟨_, rfl⟩; have K5 := K3.out.on (w' := W2) (by rw [hW2]; exact gr_trans g4 (World.grownBy_alloc _ _ _)); have SK := hide (skip_any K5 HSZ.out); obtain ⟨c2, f2, n5, k5⟩ := cell_mid (j := 13) (v := .int .i64 (skipN d)) hW2 hB g3.out g4 rfl HS.out; obtain ⟨W3, hW3⟩ : ∃ W3, W3 = W2.setCell ⟨B, 13, none⟩ (.int .i64 (skipN d)) := ⟨_, rfl⟩; rw [← hW3] at n5 k5; replace n5 := hide n5; replace k5 := hide k5; have HW3 := hide hW3; clear hW3 g4 K5)
    | (refine wpList_store_row rfl 34 _ _ rfl w4.heap.size (stC y none 0 none 0 none 0) rfl rfl _ _ (World.alloc_heap_new w4 _) (step_size _ _ _ _ _ _ _) rfl (step_one _ _ _ _ _ _ _) ?_; rw [setRow_alloc, ← hW2, ← hB]; clear hW2 hB)
    | (go_at_call 13; refine SK.out.mono ?_; rintro e w6 ⟨rfl, rfl⟩; clear SK)
    | (rw [← HW3.out]; refine wpList_load_row rfl 34 _ rfl B rfl _ (stC { y with skip := skipN d } none 0 none 0 none 0) _ _ n5.out Tryd.underlying34 rfl (step_size _ _ _ _ _ _ _) ?_)
    | (refine wpList_store_row rfl 34 _ _ rfl w.heap.size (stC { y with skip := skipN d } none 0 none 0 none 0) rfl rfl _ _ (R0.out W3 k5.out) (step_size _ _ _ _ _ _ _) rfl (step_one _ _ _ _ _ _ _) ?_))
  exact step_ret rfl (HE.out W3 k5.out).1 rfl rfl (HE.out W3 k5.out).2
theorem gr_over2 {D : Nat} {W0 w2 w3 : World} (h : W0.grownBy w2 none) (g : Gr (fun k => k = D) w2 w3) (hD : W0.heap.size ≤ D) : W0.grownBy w3 none :=
  ⟨g.os.trans h.os, g.tape.trans h.tape, g.output.trans h.output, Nat.le_trans h.size g.size, fun b hb _ => by
    have h1 := h.size
    exact (g.block b (by omega) (by omega)).trans (h.block b hb (by simp))⟩
/-- What a line that is there takes. -/
theorem line_used (he : (lineN l).2.2 = 0) : (lineN l).1.length ≤ 2048 ∧ ∃ u : Nat, (lineN l).2.1 = (u : Int) ∧ u ≤ l.length := by
  rcases feeds l with hf | ⟨p, r, rfl, hf⟩
  · rw [lineN_no hf] at he
    split at he
    · simp at he
    · simp at he
  · rw [lineN_of hf] at he ⊢
    split at he
    · simp at he
    · rename_i h1
      rw [if_neg h1]
      refine ⟨by simp only []; omega, p.length + 1, by simp, by simp⟩
theorem parse_end {D : Nat} {W : World} {old : Array Value} {s : Sv} {ca ta ka : Option Addr} {cc tc kc : Nat} (hr : W.heap[w.heap.size]? = some (.cells old 34 (0, 0))) (hD : w.heap.size < D) (hg : w.grownBy W none) (hs : ∀ W' : World, (∀ k, D < k → k < W.heap.size → W'.heap[k]? = W.heap[k]?) → W.heap.size ≤ W'.heap.size → StepAt W' s (stC s ca cc ta tc ka kc)) :
    (W.setRow w.heap.size (stC s ca cc ta tc ka kc)).heap[w.heap.size]? = some (.cells (stC s ca cc ta tc ka kc) 34 (0, 0)) ∧ ParseEnd s w (.returned (.agg (stC s ca cc ta tc ka kc))) (W.setRow w.heap.size (stC s ca cc ta tc ka kc)) :=
  ⟨setRow_heap W _ old _ _ _ hr, ca, cc, ta, tc, ka, kc, rfl, fun W' hw hz => (hs W' (fun k hk hl => (hw k (by omega) (by rw [size_setRow]; exact hl)).trans (setRow_other W _ k _ (by omega))) (by rw [size_setRow] at hz; exact hz)).q, ⟨hg.os, hg.tape, hg.output, by rw [size_setRow]; exact hg.size, fun k hk hn => (setRow_other W _ k _ (by omega)).trans (hg.block k hk hn)⟩⟩
set_option maxRecDepth 100000 in
set_option maxHeartbeats 2000000 in
theorem parse_ok (hLd : Laid w) (h : Bu w a len cap l) (hlen : len ≤ 9223372036854000000) (he : (lineN l).2.2 = 0) (hf : (readN (wordsL (lineN l).1)).2 = []) : Calls Tryd.prog 6 #[.slice a len cap] w fun e w' => ParseEnd (finishN (readN (wordsL (lineN l).1)).1 (l.drop (lineN l).2.1.toNat) (lineN l).2.1) w e w' := by
  obtain ⟨hx1, u, hu, hul⟩ := line_used he
  obtain ⟨W0, hW0⟩ : ∃ W0, W0 = w.alloc (.cells #[.slice none 0 0, .int .i64 0, .string ⟨#[]⟩, .int .i64 0, .int .u32 0, .bool false, .bool false, .string ⟨#[]⟩, .slice none 0 0, .slice none 0 0, .bool false, .string ⟨#[]⟩, .int .i64 0, .int .i64 0, .bool false, .int .i64 0] 34) := ⟨_, rfl⟩
  have g0 : w.grownBy W0 none := by rw [hW0]; exact World.grownBy_alloc _ _ _
  have r0 : W0.heap[w.heap.size]? = some (.cells #[.slice none 0 0, .int .i64 0, .string ⟨#[]⟩, .int .i64 0, .int .u32 0, .bool false, .bool false, .string ⟨#[]⟩, .slice none 0 0, .slice none 0 0, .bool false, .string ⟨#[]⟩, .int .i64 0, .int .i64 0, .bool false, .int .i64 0] 34 (0, 0)) := by rw [hW0]; exact World.alloc_heap_new w _
  have hz0 : W0.heap.size = w.heap.size + 1 := by rw [hW0, World.size_alloc]
  have R0 := hide (fun (w1 : World) (g1 : W0.grownBy w1 none) => (g1.block w.heap.size (by omega) (by simp)).trans r0)
  have G0 := hide g0
  have HL := hide (line_any (h.on (below_gr g0)))
  have hn := h.n
  have hm := h.m
  have hc := h.c
  unfold maxLen at hm
  obtain ⟨a', hsl, hbk⟩ := h.back (i := u) (by omega)
  have HBK := hide (fun (W : World) (hg : w.grownBy W none) => hbk W (h.on (below_gr hg)))
  generalize lineN l = x at *
  obtain ⟨x1, x2, x3⟩ := x
  simp only [lineV] at *
  subst he hu
  rw [Int.toNat_natCast]
  have HX : Hid ((⟨x1.toArray⟩ : ByteArray).size ≤ 5000) := by show (⟨x1.toArray⟩ : ByteArray).size ≤ 5000; have := size_mk x1; unfold mkB at this; omega
  obtain ⟨hk1, hk2, hk3⟩ := readN_ok (wordsL x1)
  have hwl := wordsL_len x1
  obtain ⟨r, hr⟩ : ∃ r, readN (wordsL x1) = r := ⟨_, rfl⟩
  have HRD := hide hr
  rw [hr] at hk1 hk3 hf ⊢
  obtain ⟨d, f⟩ := r
  simp only [] at hk1 hk3 hf
  subst hf
  have hk4 := hk3 rfl
  have HFN := hide (fun (w1 w3 : World) (n1 D : Nat) (K3 : Dr w1 n1 D w3 d) (b3 : Bu w3 a' (len - u) (cap - u) (l.drop u)) => finish_any K3 (Nat.le_trans hk1.keys (by omega)) ⟨hk1.size, hk4⟩ b3 (u : Int) (by omega))
  generalize finishN d (l.drop u) (u : Int) = y at *
  clear h r0 g0 hr hk1 hk2 hk3 hk4 hbk hwl hul hn hc hm hlen
  go_enter Tryd.func6, Tryd.ntmps6
  go_wp2_with (first
    | (go_at_call 9; rw [← hW0]; refine HL.out.mono ?_; rintro e w1 ⟨rfl, g1⟩; have M1 := hide (fun (w2 : World) (v : Value) => gathered (w1 := w1) (w2 := w2) (v := v) (x1 := x1) (hLd.on (below_gr (gr_trans G0.out g1))) hx1); replace g1 := hide g1)
    | (go_at_call 12; refine (gather_any ⟨x1.toArray⟩ HX.out _).mono ?_; rintro e w2 ⟨v2, rfl, o2, b2⟩; obtain ⟨wa, wc, rfl, C2⟩ := M1.out w2 v2 o2 b2; have k2 := hide (gathered_gr b2); replace C2 := hide C2; clear o2 b2 M1)
    | (go_at_call 11; refine C2.out.mono ?_; rw [HRD.out]; rintro e w3 ⟨rfl, ⟨n1, K3⟩, k3⟩; have g3 := hide (gr_over g1.out k2.out k3 (Nat.le_refl _)); have F3 := hide (HFN.out _ _ _ _ K3 (HBK.out w3 (gr_trans G0.out g3.out))); clear k3 C2; simp only [mkB])
    | (go_at_call 14; refine F3.out.mono ?_; rintro e w5 ⟨cs, rfl, st5, k5⟩; obtain ⟨ca, cc, ta, tc, ka, kc, rfl, -⟩ := st5 w5 (fun _ _ _ => rfl) (Nat.le_refl _); have g5 := hide (gr_over2 g3.out k5 g1.out.size); replace st5 := hide st5; clear k5)
    | (refine wpList_store_row rfl 34 _ _ rfl w.heap.size (stC y ca cc ta tc ka kc) rfl rfl _ _ (R0.out w5 g5.out) (step_size _ _ _ _ _ _ _) rfl (step_one _ _ _ _ _ _ _) ?_))
  have PE := parse_end (w := w) (D := w1.heap.size) (R0.out w5 g5.out) (by have := g1.out.size; omega) (gr_trans G0.out g5.out) st5.out
  exact step_ret rfl PE.1 rfl rfl PE.2
theorem parse_any (hLd : Laid w) (h : Bu w a len cap l) (hlen : len ≤ 9223372036854000000) : Calls Tryd.prog 6 #[.slice a len cap] w fun e w' => ParseEnd (parseN l) w e w' := by
  unfold parseN
  have hw : (lineN l).2.2 = 3 ∨ (lineN l).2.2 = 4 ∨ (lineN l).2.2 = 0 := by
    unfold lineN
    split
    · split <;> simp
    · split <;> simp
  rcases hw with he | he | he
  · rw [if_pos he]
    exact parse_more h he
  · rw [if_neg (by omega), if_pos he]
    exact parse_long h he
  · rw [if_neg (by omega), if_neg (by omega)]
    unfold lineS
    by_cases hf : (readN (wordsL (lineN l).1)).2 = []
    · rw [if_pos hf]
      exact parse_ok hLd h hlen he hf
    · rw [if_neg hf]
      exact parse_fault hLd h he (line_used he).1 hf
end
end Go.Proofs.YtgekjakihocgnaaDoor
