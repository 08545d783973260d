/- What package textin's read says of a line's words. Conditions: the listed variables hold what the program's text lays. What package textin's Parse answers: chapter 14's step. Conditions: the listed variables hold what the program's text lays. Two commands, rows of texts, requests and steps that are the same are told to be, by the statements' own helpers. Conditions: none. -/
import Derived.Test.YthofdmepofepgaaDoorG29Joined
import Derived.Test.YthofdmepofepgaaDoorG30Joined
import Derived.Test.YthofdmepofepgaaDoorTextLP
import Derived.Test.YthofdmepofepgaaDoorG26Joined
import Derived.Test.YthofdmepofepgaaDoorG07Joined
import Derived.Deep.QuietTactic
import Derived.BigQuiet
namespace Go.Proofs.YthofdmepofepgaaDoor
set_option linter.unusedVariables false
open Go.RowKit Go.Shelf

def zeroDr : Array Value := #[.int .i64 0, .string ⟨#[]⟩, .int .i64 0, .int .u32 0, .bool false, .bool false, .string ⟨#[]⟩, .slice none 0 0, .slice none 0 0, .bool false, .int .i64 0, .string ⟨#[]⟩, .slice none 0 0, .int .u32 0, .int .i64 0, .int .u64 0, .int .u64 0, .int .u64 0, .bool false, .bool false, .int .u64 0, .bool false]
/-- A draft, as it lies there: its fields, in each world that leaves old blocks as they are. -/
theorem said_ret {fn : Func} {W : World} {r : Nat} {cs : Array Value} {tmps : Array Value} {p : Tmp} {Post : Ending → World → Prop} (hf : fn.results = #[.cell p 51]) (hb : W.heap[r]? = some (.cells cs 51 (0, 0))) (h4 : tmps.getD p undef = .pointer (some ⟨r, 0, none⟩)) (hz : cs.size = 14)
    (h : Post (.returned (.agg cs)) W) : bodyPost Tryd.prog fn Post .ret { tmps := tmps, defers := [] } W :=
  bodyPost_ret (results_cell_row hf tmps W r 51 cs (0, 0) _ h4 hb Tryd.underlying51 rfl (by rw [hz]; kernel_rfl)) rfl h
theorem saidN_cells {d : Dv} {f : List UInt8} {n : Nat} (hn : (reqD d).cmds.length = n) (ca ka : Option Addr) (cc kc : Nat) : sdC ⟨reqD d, f, d.size, d.sized⟩ ca cc none 0 ka kc = #[.slice ca n cc, .int .i64 d.dia, .string (mkB d.verb), .int .i64 0, .int .u32 0, .bool d.quiet, .bool d.wcas, .string ⟨#[]⟩, .slice none 0 0, .slice ka d.keys.length kc, .bool false, .string (mkB f), .int .u64 d.size, .bool d.sized] := by
  have e : (reqD d).form.keys.length = d.keys.length := List.length_map _
  unfold sdC
  simp only []
  rw [hn, e]
  rfl
theorem Wu.imp {Q Q' : Nat → Prop} {w : World} {a : Option Addr} {len cap : Nat} {ws : List (List UInt8)} (h : Wu Q w a len cap ws) (hq : ∀ b, Q b → b < w.heap.size → Q' b) : Wu Q' w a len cap ws := by
  refine ⟨h.n, h.c, h.m, h.nil_, ?_⟩
  rcases h.at_ with h0 | ⟨b, off, e, hb, hl, hc⟩
  · exact .inl h0
  · exact .inr ⟨b, off, e, hq b hb hl, hl, hc⟩
/-- The rows of what was said. -/
theorem saidN_at {n0 n1 n2 r : Nat} {w4 : World} {d : Dv} {f : List UInt8} {ca ka : Option Addr} {cc kc : Nat} (cs : Array Value) (h1 : d.sized = true → ∃ x, d.keys = [x]) (ho : w4.ownsRow n2 38 10 (.slice ca (ksD d).length cc) (ksD d).length (cmdsV d none 0 (ksD d))) (hK : w4.ownsRow n1 9 1 (.slice ka d.keys.length kc) d.keys.length (strL d.keys)) (hv : d.val = []) (hr : r < n1) (hr2 : r < n2) (hn : n0 ≤ r) (hkn : ∀ k, (Value.slice ka d.keys.length kc).ownBlock = some k → k < n2) :
    SdAt n0 (w4.setRow r cs) ⟨reqD d, f, d.size, d.sized⟩ ca cc none 0 ka kc := by
  have so : ∀ k, k ≠ r → (w4.setRow r cs).heap[k]? = w4.heap[k]? := fun k hk => setRow_other w4 r k _ hk
  have o2 := own_same ho fun k hk => so k (by have := (own_at ho hk).1; omega)
  have k2 := own_same hK fun k hk => so k (by have := (own_at hK hk).1; omega)
  have hB : ∀ W : World, Bu W none d.val.length 0 d.val := fun W => by rw [hv]; exact ⟨rfl, .inl ⟨rfl, rfl, fun _ => rfl⟩, Nat.le_refl _, Nat.zero_le _⟩
  refine ⟨fun W' hs hz => ?_, fun hs => ?_, fun W' hs hz => ?_⟩
  · exact qat_of (own_same o2 fun k hk => hs k (by have := (own_at o2 hk).1; omega) (own_at o2 hk).2.1) (own_same k2 fun k hk => hs k (by have := (own_at k2 hk).1; omega) (own_at k2 hk).2.1) (hB W')
  · obtain ⟨x, hx⟩ := h1 hs
    have hk : ksD d = [x] := by unfold ksD; rw [hx, if_neg (by simp)]
    rw [hk] at o2
    refine ⟨cmdD d x, none, 0, by show (reqD d).cmds = _; rw [ksD_cmds, hk]; rfl, o2.1, ?_⟩
    rcases o2.2 with h2 | ⟨g, cap, cur, e1, e2, e3, e4, e5, e6, e7⟩
    · exact .inl h2
    · exact .inr ⟨g, cap, cur, e1, by omega, e3, e4, e5, e6, e7.trans (by simp [cmdsV])⟩
  · refine ⟨Su.none_ _, su_keys (n0 := n1) (own_same k2 fun k hk => hs k (by have := (own_at k2 hk).1; omega) (own_at k2 hk).2.1 fun e => ?_)⟩
    have hk3 := hkn k hk
    cases ca with
    | none => cases e
    | some p =>
      have hk4 := (own_at ho (k := k) (by have := e; exact this)).1
      omega
set_option maxRecDepth 100000 in
set_option maxHeartbeats 4000000 in
theorem tread_any : tReads saidN := by
  intro w wa wc ws hLd hl he hU
  obtain ⟨W0, hW0⟩ : ∃ W0, W0 = w.alloc (.cells #[.slice none 0 0, .int .i64 0, .string ⟨#[]⟩, .int .i64 0, .int .u32 0, .bool false, .bool false, .string ⟨#[]⟩, .slice none 0 0, .slice none 0 0, .bool false, .string ⟨#[]⟩, .int .u64 0, .bool false] 51) := ⟨_, rfl⟩
  obtain ⟨D, hD⟩ : ∃ D, D = W0.heap.size := ⟨_, rfl⟩
  obtain ⟨W1, hW1⟩ : ∃ W1, W1 = W0.alloc (.cells zeroDr 57) := ⟨_, rfl⟩
  have g0 : w.grownBy W0 none := by rw [hW0]; exact World.grownBy_alloc _ _ _
  have g1 : W0.grownBy W1 none := by rw [hW1]; exact World.grownBy_alloc _ _ _
  have z0 : D = w.heap.size + 1 := by rw [hD, hW0, World.size_alloc]
  obtain rfl : D = w.heap.size + 1 := z0
  have z1 : W1.heap.size = w.heap.size + 1 + 1 := by rw [hW1, World.size_alloc, ← hD]
  have r0 : W0.heap[w.heap.size]? = some (.cells #[.slice none 0 0, .int .i64 0, .string ⟨#[]⟩, .int .i64 0, .int .u32 0, .bool false, .bool false, .string ⟨#[]⟩, .slice none 0 0, .slice none 0 0, .bool false, .string ⟨#[]⟩, .int .u64 0, .bool false] 51 (0, 0)) := by rw [hW0]; exact World.alloc_heap_new w _
  have r1 : W1.heap[w.heap.size]? = some (.cells #[.slice none 0 0, .int .i64 0, .string ⟨#[]⟩, .int .i64 0, .int .u32 0, .bool false, .bool false, .string ⟨#[]⟩, .slice none 0 0, .slice none 0 0, .bool false, .string ⟨#[]⟩, .int .u64 0, .bool false] 51 (0, 0)) := (g1.block _ (by omega) (by simp)).trans r0
  have d1 : W1.heap[w.heap.size + 1]? = some (.cells zeroDr 57 (0, 0)) := by rw [hW1, hD]; exact World.alloc_heap_new W0 _
  have H : Dr W0 W1.heap.size (w.heap.size + 1) W1 zeroD := ⟨below_gr g1, by omega, by omega, Nat.le_refl _, rfl, ⟨none, 0, d1, World.ownsRow_nil _ _ _ _⟩, fun _ => d1⟩
  have hW : Wu (fun b => b ≠ (w.heap.size + 1)) W1 wa ws.length wc ws := (hU.imp (Q' := fun b => b ≠ (w.heap.size + 1)) fun b _ hb => by omega).on (w' := W1) fun b _ hb => (gr_trans g0 g1).block b hb (by simp)
  have RD := hide (read_any (hLd.on (below_gr g0)) H hW (by omega) (fun y hy => by have := he y hy; omega))
  obtain ⟨hk1, hk2, hk3⟩ := rawN_ok ws
  have hone := rawN_one ws
  have hsd : saidN ws = ⟨reqD (rawN ws).1, (rawN ws).2, (rawN ws).1.size, (rawN ws).1.sized⟩ := rfl
  rw [hsd]
  obtain ⟨x, hx⟩ : ∃ x, rawN ws = x := ⟨_, rfl⟩
  have HX := hide hx
  rw [hx] at hk1 hk2 hk3 hone ⊢
  obtain ⟨d, f⟩ := x
  simp only [] at hk1 hk2 hk3 hone ⊢
  have hkl := hk1.keys
  have R1 := hide r1
  have G01 := hide (gr_trans g0 g1)
  have HW0 := hide hW0
  have HW1 : Hid (W0.alloc (.cells #[.int .i64 0, .string ⟨#[]⟩, .int .i64 0, .int .u32 0, .bool false, .bool false, .string ⟨#[]⟩, .slice none 0 0, .slice none 0 0, .bool false, .int .i64 0, .string ⟨#[]⟩, .slice none 0 0, .int .u32 0, .int .i64 0, .int .u64 0, .int .u64 0, .int .u64 0, .bool false, .bool false, .int .u64 0, .bool false] 57) = W1) := by rw [hW1]; rfl
  have HCE := hide (fun ca ka cc kc => saidN_cells (d := d) (f := f) (n := (ksD d).length) (by rw [ksD_cmds, List.length_map]) ca ka cc kc)
  clear hU hW H r0 r1 d1 he g0 g1 hx hsd hW0 hW1 hD
  have N1 : Hid True := trivial
  go_enter Tryd.func13, Tryd.ntmps13
  go_upto_region 3 with (first
    | (go_at_call 23; go_loud (rw [← HW0.out, HW1.out]); refine RD.out.mono ?_; rw [HX.out]; rintro e w2 ⟨rfl, ⟨n1, K2⟩, k2⟩; replace K2 := hide K2; replace k2 := hide k2)
    | fail)
  obtain ⟨ka, kc, q1, q2⟩ := K2.out.st
  have hvz := K2.out.val
  have hDn := K2.out.hi
  have hnz := K2.out.sz
  have S0 : w2.grownBy w2.drew none := gr_of_below (Below.drew (Below.refl _ _))
  have Q1 := hide (fun (W : World) (hW : w2.grownBy W none) => (hW.block (w.heap.size + 1) (by omega) (by simp)).trans q1)
  have HQ0 := hide (fun ca cc => req_cells (d := d) (a := ka) (c := kc) (n := (ksD d).length) (by rw [ksD_cmds, List.length_map]) ca cc)
  have HRQ := hide (fun (W : World) (hW : w2.grownBy W none) => request_any (Q1.out W hW) (own_goes q2 hW) (va := none) (vc := 0) (by rw [hvz]; exact ⟨rfl, .inl ⟨rfl, rfl, fun _ => rfl⟩, Nat.le_refl _, Nat.zero_le _⟩) (by omega))
  have kr := hide (k2.out.block w.heap.size (by omega) (by omega))
  refine region_htail (S := fun W' => w2.grownBy W' none) 6 (by kernel_rfl) (by simp) (by kernel_rfl) ?_
  simp only [List.take_succ_cons, List.take_zero, List.drop_succ_cons, List.drop_zero]
  generalize w2.drew = V at *
  refine take_at 1 8 (v := .string (mkB f)) rfl rfl (by kernel_rfl) (by kernel_rfl) (by kernel_rfl) (fun _ _ _ h => h) (Or.inl ⟨by rfl, fun W hW => by go_simp⟩) S0 ?_
  simp only [Act.put, List.setIfInBounds_toArray, List.set_cons_zero, List.set_cons_succ]
  refine take_at 2 9 (v := .pointer (some ⟨w.heap.size + 1, 20, none⟩)) rfl rfl (by kernel_rfl) (by kernel_rfl) (by kernel_rfl) (fun _ _ _ h => h) (Or.inl ⟨by rfl, fun W hW => by go_simp⟩) S0 ?_
  simp only [Act.put, List.setIfInBounds_toArray, List.set_cons_zero, List.set_cons_succ]
  refine take_at 3 10 (v := .int .u64 d.size) rfl rfl (by kernel_rfl) (by kernel_rfl) (by kernel_rfl) (fun _ _ _ h => h) (Or.inl ⟨by rfl, fun W hW => by have c_ := dr_size (Q1.out W hW); go_simp⟩) S0 ?_
  simp only [Act.put, List.setIfInBounds_toArray, List.set_cons_zero, List.set_cons_succ]
  refine take_at 4 11 (v := .pointer (some ⟨w.heap.size + 1, 21, none⟩)) rfl rfl (by kernel_rfl) (by kernel_rfl) (by kernel_rfl) (fun _ _ _ h => h) (Or.inl ⟨by rfl, fun W hW => by go_simp⟩) S0 ?_
  simp only [Act.put, List.setIfInBounds_toArray, List.set_cons_zero, List.set_cons_succ]
  refine take_at 5 12 (v := .bool d.sized) rfl rfl (by kernel_rfl) (by kernel_rfl) (by kernel_rfl) (fun _ _ _ h => h) (Or.inl ⟨by rfl, fun W hW => by have c_ := dr_sized (Q1.out W hW); go_simp⟩) S0 ?_
  simp only [Act.put, List.setIfInBounds_toArray, List.set_cons_zero, List.set_cons_succ]
  refine one_at 0 (by kernel_rfl) rfl rfl ?_
  refine oper_call 7 rfl (by go_simp) (HRQ.out V S0) ?_
  rintro e w3 ⟨ca, cc, rfl, o3, g3⟩
  rw [HQ0.out ca cc]
  refine ⟨_, rfl, gr_trans S0 g3, ?_⟩
  simp only [Act.put, List.setIfInBounds_toArray, List.set_cons_zero, List.set_cons_succ]
  refine wpAnyH_done (by kernel_rfl) ?_ _
  have k3 := own_goes q2 (gr_trans S0 g3)
  have gA := gr_trans S0 g3
  have r3 : w3.heap[w.heap.size]? = some (.cells #[.slice none 0 0, .int .i64 0, .string ⟨#[]⟩, .int .i64 0, .int .u32 0, .bool false, .bool false, .string ⟨#[]⟩, .slice none 0 0, .slice none 0 0, .bool false, .string ⟨#[]⟩, .int .u64 0, .bool false] 51 (0, 0)) := (gA.block _ (by omega) (by simp)).trans (kr.out.trans R1.out)
  have hsz := S0.size
  have SA := hide (saidN_at (n0 := w.heap.size) (r := w.heap.size) (f := f) (sdC ⟨reqD d, f, d.size, d.sized⟩ ca cc none 0 ka kc) hone o3 k3 hvz (by omega) (by omega) (Nat.le_refl _) (fun k hk => by have := (own_at q2 hk).2.1; omega))
  have R3 := hide r3
  have GE : Hid (w.grownBy (w3.setRow w.heap.size (sdC ⟨reqD d, f, d.size, d.sized⟩ ca cc none 0 ka kc)) none) := by
    have h1 := G01.out
    have h2 := k2.out
    exact ⟨gA.os.trans (h2.os.trans h1.os), gA.tape.trans (h2.tape.trans h1.tape), gA.output.trans (h2.output.trans h1.output), by rw [size_setRow]; exact Nat.le_trans h1.size (Nat.le_trans h2.size gA.size), fun b hb _ => (setRow_other w3 _ b _ (by omega)).trans ((gA.block b (Nat.lt_of_lt_of_le hb (Nat.le_trans h1.size h2.size)) (by simp)).trans ((h2.block b (Nat.lt_of_lt_of_le hb h1.size) (by omega)).trans (h1.block b hb (by simp))))⟩
  change wpList _ _ _ _ _ _
  go_wp2_with (refine wpList_store_row rfl 51 _ _ rfl w.heap.size (sdC ⟨reqD d, f, d.size, d.sized⟩ ca cc none 0 ka kc) rfl (by rw [HCE.out ca ka cc kc]; rfl) _ _ R3.out (said_size _ _ _ _ _ _ _) rfl (said_one _ _ _ _ _ _ _) ?_)
  exact said_ret (cs := sdC ⟨reqD d, f, d.size, d.sized⟩ ca cc none 0 ka kc) rfl (setRow_heap _ _ _ _ _ _ R3.out) rfl rfl ⟨ca, cc, none, 0, ka, kc, rfl, SA.out, GE.out⟩
end Go.Proofs.YthofdmepofepgaaDoor

namespace Go.Proofs.YthofdmepofepgaaDoor
set_option linter.unusedVariables false
open Go.RowKit

section
variable {w : World} {a : Option Addr} {len cap : Nat} {l : List UInt8}
set_option maxRecDepth 100000 in
set_option maxHeartbeats 2000000 in
theorem parse_any (hLd : Laid w) (h : Bu w a len cap l) (hlen : len ≤ 9223372036854000000) : Calls Tryd.prog 9 #[.slice a len cap] w fun e w' => ParseEnd (parseN l) w e w' := by
  obtain ⟨W0, hW0⟩ : ∃ W0, W0 = w.alloc (.cells #[.slice none 0 0, .int .i64 0, .string ⟨#[]⟩, .int .i64 0, .int .u32 0, .bool false, .bool false, .string ⟨#[]⟩, .slice none 0 0, .slice none 0 0, .bool false, .string ⟨#[]⟩, .int .i64 0, .int .i64 0, .bool false, .int .i64 0] 33) := ⟨_, rfl⟩
  have g0 : w.grownBy W0 none := by rw [hW0]; exact World.grownBy_alloc _ _ _
  have r0 : W0.heap[w.heap.size]? = some (.cells #[.slice none 0 0, .int .i64 0, .string ⟨#[]⟩, .int .i64 0, .int .u32 0, .bool false, .bool false, .string ⟨#[]⟩, .slice none 0 0, .slice none 0 0, .bool false, .string ⟨#[]⟩, .int .i64 0, .int .i64 0, .bool false, .int .i64 0] 33 (0, 0)) := by rw [hW0]; exact World.alloc_heap_new w _
  have hz0 : W0.heap.size = w.heap.size + 1 := by rw [hW0, World.size_alloc]
  have HP := hide (tlparse_any tread_any saidN_ok (hLd.on (below_gr g0)) (h.on (below_gr g0)) hlen)
  rw [parse_said] at HP
  have R0 := hide (fun (w1 : World) (g1 : W0.grownBy w1 none) => (g1.block w.heap.size (by omega) (by simp)).trans r0)
  have G0 := hide g0
  generalize parseN l = y at *
  clear h hLd r0 g0 hlen
  go_enter Tryd.func9, Tryd.ntmps9
  go_wp2_with (first
    | (go_at_call 12; rw [← hW0]; refine HP.out.mono ?_; rintro e w1 ⟨ca, cc, ta, tc, ka, kc, rfl, q1, g1⟩; replace q1 := hide q1; replace g1 := hide g1)
    | (refine wpList_store_row rfl 33 _ _ rfl w.heap.size (stC y ca cc ta tc ka kc) rfl rfl _ _ (R0.out w1 g1.out) (step_size _ _ _ _ _ _ _) rfl (step_one _ _ _ _ _ _ _) ?_))
  have PE := parse_end (w := w) (n0 := w.heap.size + 1) (R0.out w1 g1.out) (by omega) (gr_trans G0.out g1.out) (fun W' hs hz => q1.out W' (fun k hk hl => hs k (by omega) hl) hz)
  exact step_ret rfl PE.1 rfl rfl PE.2
end
end Go.Proofs.YthofdmepofepgaaDoor

namespace Go.Proofs.YthofdmepofepgaaDoor
set_option linter.unusedVariables false
open Go.RowKit

theorem wrap_next {k n c : Nat} (h : k < n) (hn : n ≤ c) (hc : c ≤ maxLen) : wrap64 ((k : Int) + 1) = (k : Int) + 1 := by
  unfold maxLen at hc
  unfold wrap64
  omega
theorem int_lt {k n : Nat} (h : k < n) : (k : Int) < (n : Int) := by omega
theorem int_nlt (n : Nat) : ¬ (n : Int) < (n : Int) := by omega
section
variable {w : World}
set_option maxRecDepth 100000 in
set_option maxHeartbeats 2000000 in
theorem cmds_eq {c : Cv} {va vb : Option Addr} {vc vd : Nat} (h1 : Bu w va c.val.length vc c.val) (h2 : Bu w vb c.val.length vd c.val) : Calls Tryd.prog 25 #[.agg (cmC c va vc), .agg (cmC c vb vd)] w fun e w' => e = .returned (.bool true) ∧ w.grownBy w' none := by
  have k1 := convU ((h1.alloc (.cells (cmC c va vc) 38)).alloc (.cells (cmC c vb vd) 38))
  have k2 := convU ((h2.alloc (.cells (cmC c va vc) 38)).alloc (.cells (cmC c vb vd) 38))
  have HG := hide (gr_trans (World.grownBy_alloc w (.cells (cmC c va vc) 38) none) (World.grownBy_alloc (w.alloc (.cells (cmC c va vc) 38)) (.cells (cmC c vb vd) 38) none))
  clear h1 h2
  simp only [cmC] at *
  go_enter Tryd.func25, Tryd.ntmps25
  go_wp2
  go_ret
  exact ⟨by first | rfl | (simp; done), HG.out⟩
set_option maxHeartbeats 2000000 in
theorem texts_eq {a b : Option Addr} {n c d : Nat} {xs : List ByteArray} (hx : n ≤ 1000000) (h1 : Su w a n c xs) (h2 : Su w b n d xs) : Calls Tryd.prog 26 #[.slice a n c, .slice b n d] w fun e w' => e = .returned (.bool true) ∧ w.grownBy w' none := by
  have ha : ∀ k, k < n → ∃ b off, a = some ⟨b, off, none⟩ ∧ w.cell? ⟨b, off + k, none⟩ = some (.string (xs.getD k ⟨#[]⟩)) := fun k hk => by
    obtain ⟨b, off, e, h⟩ := h1.get hk
    exact ⟨b, off, e, by rw [h]; simp [List.getD, List.getElem?_eq_getElem (show k < xs.length by rw [h1.n]; exact hk)]⟩
  have hb : ∀ k, k < n → ∃ b' off, b = some ⟨b', off, none⟩ ∧ w.cell? ⟨b', off + k, none⟩ = some (.string (xs.getD k ⟨#[]⟩)) := fun k hk => by
    obtain ⟨b, off, e, h⟩ := h2.get hk
    exact ⟨b, off, e, by rw [h]; simp [List.getD, List.getElem?_eq_getElem (show k < xs.length by rw [h1.n]; exact hk)]⟩
  clear h1 h2
  go_enter Tryd.func26, Tryd.ntmps26
  go_wp2
  go_loopw [5] (fun i wr => ∃ k j : Nat, k ≤ n ∧ i = .int .i64 k ∧ wr = w.drewN j) (fun i _ => n - (intOf i).toNat)
  case atStart => exact ⟨0, 0, Nat.zero_le _, rfl, (World.drewN_zero w).symm⟩
  case round =>
    obtain ⟨k, j, hk, rfl, rfl⟩ := hrel
    by_cases hlt : k < n
    · obtain ⟨b1, o1, rfl, c1⟩ := ha k hlt
      obtain ⟨b2, o2, rfl, c2⟩ := hb k hlt
      obtain ⟨x, hxx⟩ : ∃ x, x = xs.getD k ⟨#[]⟩ := ⟨_, rfl⟩
      rw [← hxx] at c1 c2
      have hki : (k : Int) < (n : Int) := by omega
      clear ha hb hxx
      go_wp2
      go_quiet (fail)
      go_wp2
      go_roundw
      case rel => exact ⟨k + 1, _, by omega, by go_num, rfl⟩
      case measure => simp [intOf]; omega
    · go_wp2
      go_ret
      exact ⟨rfl, rfl, rfl, rfl, Nat.le_refl _, fun _ _ _ => rfl⟩
end
end Go.Proofs.YthofdmepofepgaaDoor
