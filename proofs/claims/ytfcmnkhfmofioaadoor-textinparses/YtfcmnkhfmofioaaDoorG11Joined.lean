/- What package textin's read says of a line's words. Conditions: the listed variables hold what the program's text lays. What package textin's Parse answers: chapter 14's step. Conditions: the listed variables hold what the program's text lays. Two commands, rows of texts, requests and steps that are the same are told to be, by the statements' own helpers. Conditions: none. Two requests, and two steps, that are the same are told to be. Conditions: at most 1000000 commands, keys and tokens. -/
import Derived.Test.YtfcmnkhfmofioaaDoorG09Joined
import Derived.Test.YtfcmnkhfmofioaaDoorG10Joined
import Derived.Test.YtfcmnkhfmofioaaDoorG08Joined
import Derived.Test.YtfcmnkhfmofioaaDoorG03Joined
import Derived.Deep.QuietTactic
import Derived.BigQuiet
import Derived.Test.YtfcmnkhfmofioaaDoorG06Joined
namespace Go.Proofs.YtfcmnkhfmofioaaDoor
set_option linter.unusedVariables false
open Go.RowKit Go.Shelf

def zeroDr : Array Value := #[.int .i64 0, .string ⟨#[]⟩, .int .i64 0, .int .u32 0, .bool false, .bool false, .string ⟨#[]⟩, .slice none 0 0, .slice none 0 0, .bool false, .int .i64 0, .string ⟨#[]⟩, .slice none 0 0, .int .u32 0, .int .i64 0, .int .u64 0, .int .u64 0, .int .u64 0, .bool false, .bool false, .int .u64 0, .bool false]
/-- A draft, as it lies there: its fields, in each world that leaves old blocks as they are. -/
theorem said_ret {fn : Func} {W : World} {r : Nat} {cs : Array Value} {tmps : Array Value} {p : Tmp} {Post : Ending → World → Prop} (hf : fn.results = #[.cell p 57]) (hb : W.heap[r]? = some (.cells cs 57 (0, 0))) (h4 : tmps.getD p undef = .pointer (some ⟨r, 0, none⟩)) (hz : cs.size = 14)
    (h : Post (.returned (.agg cs)) W) : bodyPost Tryd.prog fn Post .ret { tmps := tmps, defers := [] } W :=
  bodyPost_ret (results_cell_row hf tmps W r 57 cs (0, 0) _ h4 hb Tryd.underlying57 rfl (by rw [hz]; kernel_rfl)) rfl h
theorem saidN_cells {d : Dv} {f : List UInt8} {n : Nat} (hn : (reqD d).cmds.length = n) (ca ka : Option Addr) (cc kc : Nat) : sdC ⟨reqD d, f, d.size, d.sized⟩ ca cc none 0 ka kc = #[.slice ca n cc, .int .i64 d.dia, .string (mkB d.verb), .int .i64 0, .int .u32 0, .bool d.quiet, .bool d.wcas, .string ⟨#[]⟩, .slice none 0 0, .slice ka d.keys.length kc, .bool false, .string (mkB f), .int .u64 d.size, .bool d.sized] := by
  have e : (reqD d).form.keys.length = d.keys.length := List.length_map _
  unfold sdC
  simp only []
  rw [hn, e]
  rfl
theorem Wu.imp {Q Q' : Nat → Prop} {w : World} {a : Option Addr} {len cap : Nat} {ws : List (List UInt8)} (h : Wu Q w a len cap ws) (hq : ∀ b, Q b → b < w.heap.size → Q' b) : Wu Q' w a len cap ws := by
  refine ⟨h.n, h.c, h.m, h.nil_, ?_⟩
  rcases h.at_ with h0 | ⟨b, off, e, hb, hl, hc⟩
  · exact .inl h0
  · exact .inr ⟨b, off, e, hq b hb hl, hl, hc⟩
/-- The rows of what was said. -/
theorem saidN_at {n0 n1 n2 r : Nat} {w4 : World} {d : Dv} {f : List UInt8} {ca ka : Option Addr} {cc kc : Nat} (cs : Array Value) (h1 : d.sized = true → ∃ x, d.keys = [x]) (ho : w4.ownsRow n2 40 10 (.slice ca (ksD d).length cc) (ksD d).length (cmdsV d none 0 (ksD d))) (hK : w4.ownsRow n1 9 1 (.slice ka d.keys.length kc) d.keys.length (strL d.keys)) (hv : d.val = []) (hr : r < n1) (hr2 : r < n2) (hn : n0 ≤ r) (hkn : ∀ k, (Value.slice ka d.keys.length kc).ownBlock = some k → k < n2) :
    SdAt n0 (w4.setRow r cs) ⟨reqD d, f, d.size, d.sized⟩ ca cc none 0 ka kc := by
  have so : ∀ k, k ≠ r → (w4.setRow r cs).heap[k]? = w4.heap[k]? := fun k hk => setRow_other w4 r k _ hk
  have o2 := own_same ho fun k hk => so k (by have := (own_at ho hk).1; omega)
  have k2 := own_same hK fun k hk => so k (by have := (own_at hK hk).1; omega)
  have hB : ∀ W : World, Bu W none d.val.length 0 d.val := fun W => by rw [hv]; exact ⟨rfl, .inl ⟨rfl, rfl, fun _ => rfl⟩, Nat.le_refl _, Nat.zero_le _⟩
  refine ⟨fun W' hs hz => ?_, fun hs => ?_, fun W' hs hz => ?_⟩
  · exact qat_of (own_same o2 fun k hk => hs k (by have := (own_at o2 hk).1; omega) (own_at o2 hk).2.1) (own_same k2 fun k hk => hs k (by have := (own_at k2 hk).1; omega) (own_at k2 hk).2.1) (hB W')
  · obtain ⟨x, hx⟩ := h1 hs
    have hk : ksD d = [x] := by unfold ksD; rw [hx, if_neg (by simp)]
    rw [hk] at o2
    refine ⟨cmdD d x, none, 0, by show (reqD d).cmds = _; rw [ksD_cmds, hk]; rfl, o2.1, ?_⟩
    rcases o2.2 with h2 | ⟨g, cap, cur, e1, e2, e3, e4, e5, e6, e7⟩
    · exact .inl h2
    · exact .inr ⟨g, cap, cur, e1, by omega, e3, e4, e5, e6, e7.trans (by simp [cmdsV])⟩
  · refine ⟨Su.none_ _, su_keys (n0 := n1) (own_same k2 fun k hk => hs k (by have := (own_at k2 hk).1; omega) (own_at k2 hk).2.1 fun e => ?_)⟩
    have hk3 := hkn k hk
    cases ca with
    | none => cases e
    | some p =>
      have hk4 := (own_at ho (k := k) (by have := e; exact this)).1
      omega
set_option maxRecDepth 100000 in
set_option maxHeartbeats 4000000 in
theorem tread_any : tReads saidN := by
  intro w wa wc ws hLd hl he hU
  obtain ⟨W0, hW0⟩ : ∃ W0, W0 = w.alloc (.cells #[.slice none 0 0, .int .i64 0, .string ⟨#[]⟩, .int .i64 0, .int .u32 0, .bool false, .bool false, .string ⟨#[]⟩, .slice none 0 0, .slice none 0 0, .bool false, .string ⟨#[]⟩, .int .u64 0, .bool false] 57) := ⟨_, rfl⟩
  obtain ⟨D, hD⟩ : ∃ D, D = W0.heap.size := ⟨_, rfl⟩
  obtain ⟨W1, hW1⟩ : ∃ W1, W1 = W0.alloc (.cells zeroDr 62) := ⟨_, rfl⟩
  have g0 : w.grownBy W0 none := by rw [hW0]; exact World.grownBy_alloc _ _ _
  have g1 : W0.grownBy W1 none := by rw [hW1]; exact World.grownBy_alloc _ _ _
  have z0 : D = w.heap.size + 1 := by rw [hD, hW0, World.size_alloc]
  obtain rfl : D = w.heap.size + 1 := z0
  have z1 : W1.heap.size = w.heap.size + 1 + 1 := by rw [hW1, World.size_alloc, ← hD]
  have r0 : W0.heap[w.heap.size]? = some (.cells #[.slice none 0 0, .int .i64 0, .string ⟨#[]⟩, .int .i64 0, .int .u32 0, .bool false, .bool false, .string ⟨#[]⟩, .slice none 0 0, .slice none 0 0, .bool false, .string ⟨#[]⟩, .int .u64 0, .bool false] 57 (0, 0)) := by rw [hW0]; exact World.alloc_heap_new w _
  have r1 : W1.heap[w.heap.size]? = some (.cells #[.slice none 0 0, .int .i64 0, .string ⟨#[]⟩, .int .i64 0, .int .u32 0, .bool false, .bool false, .string ⟨#[]⟩, .slice none 0 0, .slice none 0 0, .bool false, .string ⟨#[]⟩, .int .u64 0, .bool false] 57 (0, 0)) := (g1.block _ (by omega) (by simp)).trans r0
  have d1 : W1.heap[w.heap.size + 1]? = some (.cells zeroDr 62 (0, 0)) := by rw [hW1, hD]; exact World.alloc_heap_new W0 _
  have H : Dr W0 W1.heap.size (w.heap.size + 1) W1 zeroD := ⟨below_gr g1, by omega, by omega, Nat.le_refl _, rfl, ⟨none, 0, d1, World.ownsRow_nil _ _ _ _⟩, fun _ => d1⟩
  have hW : Wu (fun b => b ≠ (w.heap.size + 1)) W1 wa ws.length wc ws := (hU.imp (Q' := fun b => b ≠ (w.heap.size + 1)) fun b _ hb => by omega).on (w' := W1) fun b _ hb => (gr_trans g0 g1).block b hb (by simp)
  have RD := hide (read_any (hLd.on (below_gr g0)) H hW (by omega) (fun y hy => by have := he y hy; omega))
  obtain ⟨hk1, hk2, hk3⟩ := rawN_ok ws
  have hone := rawN_one ws
  have hsd : saidN ws = ⟨reqD (rawN ws).1, (rawN ws).2, (rawN ws).1.size, (rawN ws).1.sized⟩ := rfl
  rw [hsd]
  obtain ⟨x, hx⟩ : ∃ x, rawN ws = x := ⟨_, rfl⟩
  have HX := hide hx
  rw [hx] at hk1 hk2 hk3 hone ⊢
  obtain ⟨d, f⟩ := x
  simp only [] at hk1 hk2 hk3 hone ⊢
  have hkl := hk1.keys
  have R1 := hide r1
  have G01 := hide (gr_trans g0 g1)
  have HW0 := hide hW0
  have HW1 : Hid (W0.alloc (.cells #[.int .i64 0, .string ⟨#[]⟩, .int .i64 0, .int .u32 0, .bool false, .bool false, .string ⟨#[]⟩, .slice none 0 0, .slice none 0 0, .bool false, .int .i64 0, .string ⟨#[]⟩, .slice none 0 0, .int .u32 0, .int .i64 0, .int .u64 0, .int .u64 0, .int .u64 0, .bool false, .bool false, .int .u64 0, .bool false] 62) = W1) := by rw [hW1]; rfl
  have HCE := hide (fun ca ka cc kc => saidN_cells (d := d) (f := f) (n := (ksD d).length) (by rw [ksD_cmds, List.length_map]) ca ka cc kc)
  clear hU hW H r0 r1 d1 he g0 g1 hx hsd hW0 hW1 hD
  have N1 : Hid True := trivial
  go_enter Tryd.func12, Tryd.ntmps12
  go_upto_region 3 with (first
    | (go_at_call 30; go_loud (rw [← HW0.out, HW1.out]); refine RD.out.mono ?_; rw [HX.out]; rintro e w2 ⟨rfl, ⟨n1, K2⟩, k2⟩; replace K2 := hide K2; replace k2 := hide k2)
    | fail)
  obtain ⟨ka, kc, q1, q2⟩ := K2.out.st
  have hvz := K2.out.val
  have hDn := K2.out.hi
  have hnz := K2.out.sz
  have S0 : w2.grownBy w2.drew none := gr_of_below (Below.drew (Below.refl _ _))
  have Q1 := hide (fun (W : World) (hW : w2.grownBy W none) => (hW.block (w.heap.size + 1) (by omega) (by simp)).trans q1)
  have HQ0 := hide (fun ca cc => req_cells (d := d) (a := ka) (c := kc) (n := (ksD d).length) (by rw [ksD_cmds, List.length_map]) ca cc)
  have HRQ := hide (fun (W : World) (hW : w2.grownBy W none) => request_any (Q1.out W hW) (own_goes q2 hW) (va := none) (vc := 0) (by rw [hvz]; exact ⟨rfl, .inl ⟨rfl, rfl, fun _ => rfl⟩, Nat.le_refl _, Nat.zero_le _⟩) (by omega))
  have kr := hide (k2.out.block w.heap.size (by omega) (by omega))
  refine region_htail (S := fun W' => w2.grownBy W' none) 6 (by kernel_rfl) (by simp) (by kernel_rfl) ?_
  simp only [List.take_succ_cons, List.take_zero, List.drop_succ_cons, List.drop_zero]
  generalize w2.drew = V at *
  refine take_at 1 8 (v := .string (mkB f)) rfl rfl (by kernel_rfl) (by kernel_rfl) (by kernel_rfl) (fun _ _ _ h => h) (Or.inl ⟨by rfl, fun W hW => by go_simp⟩) S0 ?_
  simp only [Act.put, List.setIfInBounds_toArray, List.set_cons_zero, List.set_cons_succ]
  refine take_at 2 9 (v := .pointer (some ⟨w.heap.size + 1, 20, none⟩)) rfl rfl (by kernel_rfl) (by kernel_rfl) (by kernel_rfl) (fun _ _ _ h => h) (Or.inl ⟨by rfl, fun W hW => by go_simp⟩) S0 ?_
  simp only [Act.put, List.setIfInBounds_toArray, List.set_cons_zero, List.set_cons_succ]
  refine take_at 3 10 (v := .int .u64 d.size) rfl rfl (by kernel_rfl) (by kernel_rfl) (by kernel_rfl) (fun _ _ _ h => h) (Or.inl ⟨by rfl, fun W hW => by have c_ := dr_size (Q1.out W hW); go_simp⟩) S0 ?_
  simp only [Act.put, List.setIfInBounds_toArray, List.set_cons_zero, List.set_cons_succ]
  refine take_at 4 11 (v := .pointer (some ⟨w.heap.size + 1, 21, none⟩)) rfl rfl (by kernel_rfl) (by kernel_rfl) (by kernel_rfl) (fun _ _ _ h => h) (Or.inl ⟨by rfl, fun W hW => by go_simp⟩) S0 ?_
  simp only [Act.put, List.setIfInBounds_toArray, List.set_cons_zero, List.set_cons_succ]
  refine take_at 5 12 (v := .bool d.sized) rfl rfl (by kernel_rfl) (by kernel_rfl) (by kernel_rfl) (fun _ _ _ h => h) (Or.inl ⟨by rfl, fun W hW => by have c_ := dr_sized (Q1.out W hW); go_simp⟩) S0 ?_
  simp only [Act.put, List.setIfInBounds_toArray, List.set_cons_zero, List.set_cons_succ]
  refine one_at 0 (by kernel_rfl) rfl rfl ?_
  refine oper_call 7 rfl (by go_simp) (HRQ.out V S0) ?_
  rintro e w3 ⟨ca, cc, rfl, o3, g3⟩
  rw [HQ0.out ca cc]
  refine ⟨_, rfl, gr_trans S0 g3, ?_⟩
  simp only [Act.put, List.setIfInBounds_toArray, List.set_cons_zero, List.set_cons_succ]
  refine wpAnyH_done (by kernel_rfl) ?_ _
  have k3 := own_goes q2 (gr_trans S0 g3)
  have gA := gr_trans S0 g3
  have r3 : w3.heap[w.heap.size]? = some (.cells #[.slice none 0 0, .int .i64 0, .string ⟨#[]⟩, .int .i64 0, .int .u32 0, .bool false, .bool false, .string ⟨#[]⟩, .slice none 0 0, .slice none 0 0, .bool false, .string ⟨#[]⟩, .int .u64 0, .bool false] 57 (0, 0)) := (gA.block _ (by omega) (by simp)).trans (kr.out.trans R1.out)
  have hsz := S0.size
  have SA := hide (saidN_at (n0 := w.heap.size) (r := w.heap.size) (f := f) (sdC ⟨reqD d, f, d.size, d.sized⟩ ca cc none 0 ka kc) hone o3 k3 hvz (by omega) (by omega) (Nat.le_refl _) (fun k hk => by have := (own_at q2 hk).2.1; omega))
  have R3 := hide r3
  have GE : Hid (w.grownBy (w3.setRow w.heap.size (sdC ⟨reqD d, f, d.size, d.sized⟩ ca cc none 0 ka kc)) none) := by
    have h1 := G01.out
    have h2 := k2.out
    exact ⟨gA.os.trans (h2.os.trans h1.os), gA.tape.trans (h2.tape.trans h1.tape), gA.output.trans (h2.output.trans h1.output), by rw [size_setRow]; exact Nat.le_trans h1.size (Nat.le_trans h2.size gA.size), fun b hb _ => (setRow_other w3 _ b _ (by omega)).trans ((gA.block b (Nat.lt_of_lt_of_le hb (Nat.le_trans h1.size h2.size)) (by simp)).trans ((h2.block b (Nat.lt_of_lt_of_le hb h1.size) (by omega)).trans (h1.block b hb (by simp))))⟩
  change wpList _ _ _ _ _ _
  go_wp2_with (refine wpList_store_row rfl 57 _ _ rfl w.heap.size (sdC ⟨reqD d, f, d.size, d.sized⟩ ca cc none 0 ka kc) rfl (by rw [HCE.out ca ka cc kc]; rfl) _ _ R3.out (said_size _ _ _ _ _ _ _) rfl (said_one _ _ _ _ _ _ _) ?_)
  exact said_ret (cs := sdC ⟨reqD d, f, d.size, d.sized⟩ ca cc none 0 ka kc) rfl (setRow_heap _ _ _ _ _ _ R3.out) rfl rfl ⟨ca, cc, none, 0, ka, kc, rfl, SA.out, GE.out⟩
end Go.Proofs.YtfcmnkhfmofioaaDoor

namespace Go.Proofs.YtfcmnkhfmofioaaDoor
set_option linter.unusedVariables false
open Go.RowKit

section
variable {w : World} {a : Option Addr} {len cap : Nat} {l : List UInt8}
set_option maxRecDepth 100000 in
set_option maxHeartbeats 2000000 in
theorem parse_any (hLd : Laid w) (h : Bu w a len cap l) (hlen : len ≤ 9223372036854000000) : Calls Tryd.prog 7 #[.slice a len cap] w fun e w' => ParseEnd (parseN l) w e w' := by
  obtain ⟨W0, hW0⟩ : ∃ W0, W0 = w.alloc (.cells #[.slice none 0 0, .int .i64 0, .string ⟨#[]⟩, .int .i64 0, .int .u32 0, .bool false, .bool false, .string ⟨#[]⟩, .slice none 0 0, .slice none 0 0, .bool false, .string ⟨#[]⟩, .int .i64 0, .int .i64 0, .bool false, .int .i64 0] 34) := ⟨_, rfl⟩
  have g0 : w.grownBy W0 none := by rw [hW0]; exact World.grownBy_alloc _ _ _
  have r0 : W0.heap[w.heap.size]? = some (.cells #[.slice none 0 0, .int .i64 0, .string ⟨#[]⟩, .int .i64 0, .int .u32 0, .bool false, .bool false, .string ⟨#[]⟩, .slice none 0 0, .slice none 0 0, .bool false, .string ⟨#[]⟩, .int .i64 0, .int .i64 0, .bool false, .int .i64 0] 34 (0, 0)) := by rw [hW0]; exact World.alloc_heap_new w _
  have hz0 : W0.heap.size = w.heap.size + 1 := by rw [hW0, World.size_alloc]
  have HP := hide (tlparse_any tread_any saidN_ok (hLd.on (below_gr g0)) (h.on (below_gr g0)) hlen)
  rw [parse_said] at HP
  have R0 := hide (fun (w1 : World) (g1 : W0.grownBy w1 none) => (g1.block w.heap.size (by omega) (by simp)).trans r0)
  have G0 := hide g0
  generalize parseN l = y at *
  clear h hLd r0 g0 hlen
  go_enter Tryd.func7, Tryd.ntmps7
  go_wp2_with (first
    | (go_at_call 11; rw [← hW0]; refine HP.out.mono ?_; rintro e w1 ⟨ca, cc, ta, tc, ka, kc, rfl, q1, g1⟩; replace q1 := hide q1; replace g1 := hide g1)
    | (refine wpList_store_row rfl 34 _ _ rfl w.heap.size (stC y ca cc ta tc ka kc) rfl rfl _ _ (R0.out w1 g1.out) (step_size _ _ _ _ _ _ _) rfl (step_one _ _ _ _ _ _ _) ?_))
  have PE := parse_end (w := w) (n0 := w.heap.size + 1) (R0.out w1 g1.out) (by omega) (gr_trans G0.out g1.out) (fun W' hs hz => q1.out W' (fun k hk hl => hs k (by omega) hl) hz)
  exact step_ret rfl PE.1 rfl rfl PE.2
end
end Go.Proofs.YtfcmnkhfmofioaaDoor

namespace Go.Proofs.YtfcmnkhfmofioaaDoor
set_option linter.unusedVariables false
open Go.RowKit

theorem wrap_next {k n c : Nat} (h : k < n) (hn : n ≤ c) (hc : c ≤ maxLen) : wrap64 ((k : Int) + 1) = (k : Int) + 1 := by
  unfold maxLen at hc
  unfold wrap64
  omega
theorem int_lt {k n : Nat} (h : k < n) : (k : Int) < (n : Int) := by omega
theorem int_nlt (n : Nat) : ¬ (n : Int) < (n : Int) := by omega
section
variable {w : World}
set_option maxRecDepth 100000 in
set_option maxHeartbeats 2000000 in
theorem cmds_eq {c : Cv} {va vb : Option Addr} {vc vd : Nat} (h1 : Bu w va c.val.length vc c.val) (h2 : Bu w vb c.val.length vd c.val) : Calls Tryd.prog 22 #[.agg (cmC c va vc), .agg (cmC c vb vd)] w fun e w' => e = .returned (.bool true) ∧ w.grownBy w' none := by
  have k1 := convU ((h1.alloc (.cells (cmC c va vc) 40)).alloc (.cells (cmC c vb vd) 40))
  have k2 := convU ((h2.alloc (.cells (cmC c va vc) 40)).alloc (.cells (cmC c vb vd) 40))
  have HG := hide (gr_trans (World.grownBy_alloc w (.cells (cmC c va vc) 40) none) (World.grownBy_alloc (w.alloc (.cells (cmC c va vc) 40)) (.cells (cmC c vb vd) 40) none))
  clear h1 h2
  simp only [cmC] at *
  go_enter Tryd.func22, Tryd.ntmps22
  go_wp2
  go_ret
  exact ⟨by first | rfl | (simp; done), HG.out⟩
set_option maxHeartbeats 2000000 in
theorem texts_eq {a b : Option Addr} {n c d : Nat} {xs : List ByteArray} (hx : n ≤ 1000000) (h1 : Su w a n c xs) (h2 : Su w b n d xs) : Calls Tryd.prog 23 #[.slice a n c, .slice b n d] w fun e w' => e = .returned (.bool true) ∧ w.grownBy w' none := by
  have ha : ∀ k, k < n → ∃ b off, a = some ⟨b, off, none⟩ ∧ w.cell? ⟨b, off + k, none⟩ = some (.string (xs.getD k ⟨#[]⟩)) := fun k hk => by
    obtain ⟨b, off, e, h⟩ := h1.get hk
    exact ⟨b, off, e, by rw [h]; simp [List.getD, List.getElem?_eq_getElem (show k < xs.length by rw [h1.n]; exact hk)]⟩
  have hb : ∀ k, k < n → ∃ b' off, b = some ⟨b', off, none⟩ ∧ w.cell? ⟨b', off + k, none⟩ = some (.string (xs.getD k ⟨#[]⟩)) := fun k hk => by
    obtain ⟨b, off, e, h⟩ := h2.get hk
    exact ⟨b, off, e, by rw [h]; simp [List.getD, List.getElem?_eq_getElem (show k < xs.length by rw [h1.n]; exact hk)]⟩
  clear h1 h2
  go_enter Tryd.func23, Tryd.ntmps23
  go_wp2
  go_loopw [5] (fun i wr => ∃ k j : Nat, k ≤ n ∧ i = .int .i64 k ∧ wr = w.drewN j) (fun i _ => n - (intOf i).toNat)
  case atStart => exact ⟨0, 0, Nat.zero_le _, rfl, (World.drewN_zero w).symm⟩
  case round =>
    obtain ⟨k, j, hk, rfl, rfl⟩ := hrel
    by_cases hlt : k < n
    · obtain ⟨b1, o1, rfl, c1⟩ := ha k hlt
      obtain ⟨b2, o2, rfl, c2⟩ := hb k hlt
      obtain ⟨x, hxx⟩ : ∃ x, x = xs.getD k ⟨#[]⟩ := ⟨_, rfl⟩
      rw [← hxx] at c1 c2
      have hki : (k : Int) < (n : Int) := by omega
      clear ha hb hxx
      go_wp2
      go_quiet (fail)
      go_wp2
      go_roundw
      case rel => exact ⟨k + 1, _, by omega, by go_num, rfl⟩
      case measure => simp [intOf]; omega
    · go_wp2
      go_ret
      exact ⟨rfl, rfl, rfl, rfl, Nat.le_refl _, fun _ _ _ => rfl⟩
end
end Go.Proofs.YtfcmnkhfmofioaaDoor

namespace Go.Proofs.YtfcmnkhfmofioaaDoor
set_option linter.unusedVariables false
open Go.RowKit

theorem fmC_size (f : Fv) (ta : Option Addr) (tc : Nat) (ka : Option Addr) (kc : Nat) : (Tryd.prog.info? 29).map (·.size) = some (fmC f ta tc ka kc).size := by
  have h : (Tryd.prog.info? 29).map (·.size) = some 10 := by kernel_rfl
  exact h
theorem fmC_one (f : Fv) (ta : Option Addr) (tc : Nat) (ka : Option Addr) (kc : Nat) : (fmC f ta tc ka kc).all (·.oneCell') = true := by simp [fmC, Value.oneCell']
section
variable {w : World} {r : Qv} {ca ta ka : Option Addr} {cc tc kc : Nat} {t : TypeId} {p : Nat}
theorem rq_at (h : w.heap[p]? = some (.cells (rqC r ca cc ta tc ka kc) t (0, 0))) (j : Nat) (v : Value) (hv : (rqC r ca cc ta tc ka kc)[j]? = some v) : w.cell? ⟨p, j, none⟩ = some v := by
  unfold World.cell?
  rw [h]
  exact hv
theorem rq_form (h : w.heap[p]? = some (.cells (rqC r ca cc ta tc ka kc) t (0, 0))) : w.rangeAt p 1 (fmC r.form ta tc ka kc).toList := fun j v hv => by
  have hj : j < 10 := (List.getElem?_eq_some_iff.1 hv).1
  refine rq_at h _ v ?_
  match j, hj with
  | 0, _ | 1, _ | 2, _ | 3, _ | 4, _ | 5, _ | 6, _ | 7, _ | 8, _ | 9, _ => exact hv
theorem fm_at {f : Fv} (h : w.heap[p]? = some (.cells (fmC f ta tc ka kc) t (0, 0))) (j : Nat) (v : Value) (hv : (fmC f ta tc ka kc)[j]? = some v) : w.cell? ⟨p, j, none⟩ = some v := by
  unfold World.cell?
  rw [h]
  exact hv
theorem fm_cells {f : Fv} (h : w.heap[p]? = some (.cells (fmC f ta tc ka kc) t (0, 0))) : w.cell? ⟨p, 0, none⟩ = some (.int .i64 f.dia) ∧ w.cell? ⟨p, 1, none⟩ = some (.string f.verb) ∧ w.cell? ⟨p, 2, none⟩ = some (.int .i64 f.code) ∧ w.cell? ⟨p, 3, none⟩ = some (.int .u32 f.opq) ∧ w.cell? ⟨p, 4, none⟩ = some (.bool f.quiet) ∧ w.cell? ⟨p, 5, none⟩ = some (.bool f.wcas) ∧ w.cell? ⟨p, 6, none⟩ = some (.string f.flags) ∧ w.cell? ⟨p, 7, none⟩ = some (.slice ta f.toks.length tc) ∧ w.cell? ⟨p, 8, none⟩ = some (.slice ka f.keys.length kc) ∧ w.cell? ⟨p, 9, none⟩ = some (.bool f.b64) :=
  ⟨fm_at h 0 _ rfl, fm_at h 1 _ rfl, fm_at h 2 _ rfl, fm_at h 3 _ rfl, fm_at h 4 _ rfl, fm_at h 5 _ rfl, fm_at h 6 _ rfl, fm_at h 7 _ rfl, fm_at h 8 _ rfl, fm_at h 9 _ rfl⟩
end
/-- The four blocks of Requests. -/
structure RBox (w : World) (r : Qv) (ca ta ka cb tb kb : Option Addr) (cc tc kc cd td kd : Nat) (W : World) : Prop where
  gr : w.grownBy W none
  a : W.heap[w.heap.size]? = some (.cells (rqC r ca cc ta tc ka kc) 31 (0, 0))
  b : W.heap[w.heap.size + 1]? = some (.cells (rqC r cb cd tb td kb kd) 31 (0, 0))
  f : W.heap[w.heap.size + 1 + 1]? = some (.cells (fmC r.form ta tc ka kc) 29 (0, 0))
  g : W.heap[w.heap.size + 1 + 1 + 1]? = some (.cells (fmC r.form tb td kb kd) 29 (0, 0))
theorem RBox.on {w W W' : World} {r : Qv} {ca ta ka cb tb kb : Option Addr} {cc tc kc cd td kd : Nat} (h : RBox w r ca ta ka cb tb kb cc tc kc cd td kd W) (hg : W.grownBy W' none) : RBox w r ca ta ka cb tb kb cc tc kc cd td kd W' := by
  have lt : ∀ {b : Nat} {o : Obj}, W.heap[b]? = some o → b < W.heap.size := fun h => (Array.getElem?_eq_some_iff.1 h).1
  exact ⟨gr_trans h.gr hg, (hg.block _ (lt h.a) (by simp)).trans h.a, (hg.block _ (lt h.b) (by simp)).trans h.b, (hg.block _ (lt h.f) (by simp)).trans h.f, (hg.block _ (lt h.g) (by simp)).trans h.g⟩
theorem rbox (w : World) (r : Qv) (ca ta ka cb tb kb : Option Addr) (cc tc kc cd td kd : Nat) : RBox w r ca ta ka cb tb kb cc tc kc cd td kd ((((w.alloc (.cells (rqC r ca cc ta tc ka kc) 31)).alloc (.cells (rqC r cb cd tb td kb kd) 31)).alloc (.cells (fmC r.form ta tc ka kc) 29)).alloc (.cells (fmC r.form tb td kb kd) 29)) := by
  have H := ((((Law.start w).box (.cells (rqC r ca cc ta tc ka kc) 31)).box (.cells (rqC r cb cd tb td kb kd) 31)).box (.cells (fmC r.form ta tc ka kc) 29)).box (.cells (fmC r.form tb td kb kd) 29)
  simp only [World.size_alloc] at H
  exact ⟨gr_of_below H.below, H.q.2.1.2.1.2.1.1, H.q.2.1.2.1.1, H.q.2.1.1, H.q.1⟩
section
variable {w : World} {r : Qv} {ca ta ka cb tb kb : Option Addr} {cc tc kc cd td kd : Nat}
set_option maxRecDepth 100000 in
set_option maxHeartbeats 4000000 in
theorem requests_eq (h1 : QAt w r ca cc ta tc ka kc) (h2 : QAt w r cb cd tb td kb kd) (hn : r.cmds.length ≤ 1000000) (hk : r.form.keys.length ≤ 1000000) (ht : r.form.toks.length ≤ 1000000) : Calls Tryd.prog 10 #[.agg (rqC r ca cc ta tc ka kc), .agg (rqC r cb cd tb td kb kd)] w fun e w' => e = .returned (.bool true) ∧ w.grownBy w' none := by
  have hR := rbox w r ca ta ka cb tb kb cc tc kc cd td kd
  obtain ⟨W2, hW2⟩ : ∃ W2, W2 = (w.alloc (.cells (rqC r ca cc ta tc ka kc) 31)).alloc (.cells (rqC r cb cd tb td kb kd) 31) := ⟨_, rfl⟩
  obtain ⟨W3, hW3⟩ : ∃ W3, W3 = W2.alloc (.cells (fmC r.form ta tc ka kc) 29) := ⟨_, rfl⟩
  obtain ⟨W4, hW4⟩ : ∃ W4, W4 = W3.alloc (.cells (fmC r.form tb td kb kd) 29) := ⟨_, rfl⟩
  have z2 : W2.heap.size = w.heap.size + 1 + 1 := by rw [hW2, World.size_alloc, World.size_alloc]
  have z3 : W3.heap.size = w.heap.size + 1 + 1 + 1 := by rw [hW3, World.size_alloc, z2]
  rw [← hW2, ← hW3, ← hW4] at hR
  have hA2 : W2.heap[w.heap.size]? = some (.cells (rqC r ca cc ta tc ka kc) 31 (0, 0)) := by rw [hW2, Below.heap_alloc _ _ _ (by rw [World.size_alloc]; omega)]; exact World.alloc_heap_new _ _
  have hB3 : W3.heap[w.heap.size + 1]? = some (.cells (rqC r cb cd tb td kb kd) 31 (0, 0)) := by
    rw [hW3, Below.heap_alloc _ _ _ (by omega), hW2]
    have := World.alloc_heap_new (w.alloc (.cells (rqC r ca cc ta tc ka kc) 31)) (.cells (rqC r cb cd tb td kb kd) 31)
    rw [World.size_alloc] at this
    exact this
  have ra := rq_form hA2
  have rb := rq_form hB3
  have S3 : Hid (∀ old, (W2.alloc (.cells old 29)).setRow (w.heap.size + 1 + 1) (fmC r.form ta tc ka kc) = W3) := fun old => by rw [hW3, ← z2]; exact setRow_alloc _ _ _ _
  have S4 : Hid (∀ old, (W3.alloc (.cells old 29)).setRow (w.heap.size + 1 + 1 + 1) (fmC r.form tb td kb kd) = W4) := fun old => by rw [hW4, ← z3]; exact setRow_alloc _ _ _ _
  have N3 : Hid (∀ old, (W2.alloc (.cells old 29)).heap[w.heap.size + 1 + 1]? = some (.cells old 29 (0, 0))) := fun old => by rw [← z2]; exact World.alloc_heap_new _ _
  have N4 : Hid (∀ old, (W3.alloc (.cells old 29)).heap[w.heap.size + 1 + 1 + 1]? = some (.cells old 29 (0, 0))) := fun old => by rw [← z3]; exact World.alloc_heap_new _ _
  have ZW : Hid (W2.heap.size = w.heap.size + 1 + 1 ∧ W3.heap.size = w.heap.size + 1 + 1 + 1) := ⟨z2, z3⟩
  have a0 := rq_at hR.a 0 _ rfl
  have b0 := rq_at hR.b 0 _ rfl
  obtain ⟨f0, f1, f2, f3, f4, f5, f6, f7, f8, f9⟩ := fm_cells hR.f
  obtain ⟨g0, g1, g2, g3, g4, g5, g6, g7, g8, g9⟩ := fm_cells hR.g
  have HR := hide hR
  have H1 := hide h1
  have H2 := hide h2
  have HT := hide (fun (W : World) (hg : w.grownBy W none) => texts_eq ht (h1.toks.on (below_gr hg)) (h2.toks.on (below_gr hg)))
  have HK := hide (fun (W : World) (hg : w.grownBy W none) => texts_eq hk (h1.keys.on (below_gr hg)) (h2.keys.on (below_gr hg)))
  obtain ⟨n, hnn⟩ : ∃ n, r.cmds.length = n := ⟨_, rfl⟩
  have HN := hide hnn
  rw [hnn] at hn
  have a1 : W4.cell? ⟨w.heap.size, 0, none⟩ = some (.slice ca n cc) := by rw [← hnn]; exact a0
  have b1 : W4.cell? ⟨w.heap.size + 1, 0, none⟩ = some (.slice cb n cd) := by rw [← hnn]; exact b0
  clear hR h1 h2 hA2 hB3 hW3 hW4 ht hk hnn a0 b0
  go_enter Tryd.func10, Tryd.ntmps10
  go_wp2_with (first
    | (have t1 := hW2; clear t1; rw [← hW2]; refine wpList_load_mid rfl 29 _ rfl w.heap.size 1 rfl (fmC r.form ta tc ka kc).toList _ ra Tryd.underlying29 rfl (by rw [fmC_size r.form ta tc ka kc, Array.length_toList]) ?_; clear hW2)
    | (refine wpList_load_mid rfl 29 _ rfl (w.heap.size + 1) 1 rfl (fmC r.form tb td kb kd).toList _ rb Tryd.underlying29 rfl (by rw [fmC_size r.form tb td kb kd, Array.length_toList]) ?_)
    | (refine wpList_store_row rfl 29 _ _ rfl (w.heap.size + 1 + 1) (fmC r.form ta tc ka kc) rfl rfl _ _ (N3.out _) (fmC_size _ _ _ _ _) rfl (fmC_one _ _ _ _ _) ?_; rw [S3.out])
    | (refine wpList_store_row rfl 29 _ _ rfl (w.heap.size + 1 + 1 + 1) (fmC r.form tb td kb kd) rfl rfl _ _ (N4.out _) (fmC_size _ _ _ _ _) rfl (fmC_one _ _ _ _ _) ?_; rw [S4.out]))
  clear ra rb S3 S4 N3 N4 ZW z2 z3 f0 f1 f2 f3 f4 f5 f6 f7 f8 f9 g0 g1 g2 g3 g4 g5 g6 g7 g8 g9 a1 b1
  go_loopw [7] (fun i wr => ∃ k : Nat, k ≤ n ∧ i = .int .i64 k ∧ Hid (RBox w r ca ta ka cb tb kb cc tc kc cd td kd wr)) (fun i _ => n - (intOf i).toNat)
  case atStart => exact ⟨0, Nat.zero_le _, rfl, HR.out⟩
  case round =>
    obtain ⟨k, hk, rfl, RB⟩ := hrel
    have a1 : wr.cell? ⟨w.heap.size, 0, none⟩ = some (.slice ca n cc) := by rw [← HN.out]; exact rq_at RB.out.a 0 _ rfl
    have b1 : wr.cell? ⟨w.heap.size + 1, 0, none⟩ = some (.slice cb n cd) := by rw [← HN.out]; exact rq_at RB.out.b 0 _ rfl
    by_cases hlt : k < n
    · have hki : (k : Int) < (n : Int) := by omega
      have e1 : wrap64 ((k : Int) + 1) = (k : Int) + 1 := by unfold wrap64; omega
      obtain ⟨xb, xo, rfl, va, vc, x1, x2⟩ := (H1.out.cmds.on (below_gr RB.out.gr)).get (i := k) (by rw [HN.out]; exact hlt)
      obtain ⟨yb, yo, rfl, vb, vd, y1, y2⟩ := (H2.out.cmds.on (below_gr RB.out.gr)).get (i := k) (by rw [HN.out]; exact hlt)
      generalize r.cmds[k]'(by rw [HN.out]; exact hlt) = c at *
      have HC := hide (cmds_eq x2.drew y2.drew)
      have gd : Hid (wr.grownBy wr.drew none) := ⟨rfl, rfl, rfl, Nat.le_refl _, fun _ _ _ => rfl⟩
      have S0 : wr.drew.cell? ⟨w.heap.size, 0, none⟩ = some (.slice (some ⟨xb, xo, none⟩) n cc) ∧ wr.drew.cell? ⟨w.heap.size + 1, 0, none⟩ = some (.slice (some ⟨yb, yo, none⟩) n cd) ∧ wr.drew.rangeAt xb (xo + k * 10) (cmC c va vc).toList ∧ wr.drew.rangeAt yb (yo + k * 10) (cmC c vb vd).toList := ⟨a1, b1, x1, y1⟩
      clear x1 x2 y1 y2
      go_wp2
      refine region_htail (S := fun W' => W'.cell? ⟨w.heap.size, 0, none⟩ = some (.slice (some ⟨xb, xo, none⟩) n cc) ∧ W'.cell? ⟨w.heap.size + 1, 0, none⟩ = some (.slice (some ⟨yb, yo, none⟩) n cd) ∧ W'.rangeAt xb (xo + k * 10) (cmC c va vc).toList ∧ W'.rangeAt yb (yo + k * 10) (cmC c vb vd).toList) 10 (by kernel_rfl) (by simp) (by kernel_rfl) ?_
      simp only [List.take_succ_cons, List.take_zero, List.drop_succ_cons, List.drop_zero]
      refine take_at 0 85 (v := .pointer (some ⟨w.heap.size, 0, none⟩)) rfl rfl (by kernel_rfl) (by kernel_rfl) (by kernel_rfl) (fun _ _ _ h => h) (Or.inl ⟨by rfl, fun W hW => by obtain ⟨s1, s2, s3, s4⟩ := hW; go_simp⟩) S0 ?_
      simp only [Act.put, List.setIfInBounds_toArray, List.set_cons_zero, List.set_cons_succ]
      refine take_at 1 86 (v := .slice (some ⟨xb, xo, none⟩) n cc) rfl rfl (by kernel_rfl) (by kernel_rfl) (by kernel_rfl) (fun _ _ _ h => h) (Or.inl ⟨by rfl, fun W hW => by obtain ⟨s1, s2, s3, s4⟩ := hW; go_simp⟩) S0 ?_
      simp only [Act.put, List.setIfInBounds_toArray, List.set_cons_zero, List.set_cons_succ]
      refine take_at 2 87 (v := .int .i64 (k : Int)) rfl rfl (by kernel_rfl) (by kernel_rfl) (by kernel_rfl) (fun _ _ _ h => h) (Or.inl ⟨by rfl, fun W hW => by obtain ⟨s1, s2, s3, s4⟩ := hW; go_simp⟩) S0 ?_
      simp only [Act.put, List.setIfInBounds_toArray, List.set_cons_zero, List.set_cons_succ]
      refine take_at 3 88 (v := .pointer (some ⟨xb, xo + k * 10, none⟩)) rfl rfl (by kernel_rfl) (by kernel_rfl) (by kernel_rfl) (fun _ _ _ h => h) (Or.inl ⟨by rfl, fun W hW => by obtain ⟨s1, s2, s3, s4⟩ := hW; go_simp⟩) S0 ?_
      simp only [Act.put, List.setIfInBounds_toArray, List.set_cons_zero, List.set_cons_succ]
      refine take_at 4 89 (v := .agg (cmC c va vc)) rfl rfl (by kernel_rfl) (by kernel_rfl) (by kernel_rfl) (fun _ _ _ h => h) (yieldsIf_load_mid (by rfl) 40 _ rfl xb (xo + k * 10) rfl (cmC c va vc).toList _ (fun W hW => hW.2.2.1) Tryd.underlying40 rfl (by rw [cmd_size c va vc, Array.length_toList])) S0 ?_
      simp only [Act.put, List.setIfInBounds_toArray, List.set_cons_zero, List.set_cons_succ]
      refine take_at 5 90 (v := .pointer (some ⟨w.heap.size + 1, 0, none⟩)) rfl rfl (by kernel_rfl) (by kernel_rfl) (by kernel_rfl) (fun _ _ _ h => h) (Or.inl ⟨by rfl, fun W hW => by obtain ⟨s1, s2, s3, s4⟩ := hW; go_simp⟩) S0 ?_
      simp only [Act.put, List.setIfInBounds_toArray, List.set_cons_zero, List.set_cons_succ]
      refine take_at 6 91 (v := .slice (some ⟨yb, yo, none⟩) n cd) rfl rfl (by kernel_rfl) (by kernel_rfl) (by kernel_rfl) (fun _ _ _ h => h) (Or.inl ⟨by rfl, fun W hW => by obtain ⟨s1, s2, s3, s4⟩ := hW; go_simp⟩) S0 ?_
      simp only [Act.put, List.setIfInBounds_toArray, List.set_cons_zero, List.set_cons_succ]
      refine take_at 7 92 (v := .int .i64 (k : Int)) rfl rfl (by kernel_rfl) (by kernel_rfl) (by kernel_rfl) (fun _ _ _ h => h) (Or.inl ⟨by rfl, fun W hW => by obtain ⟨s1, s2, s3, s4⟩ := hW; go_simp⟩) S0 ?_
      simp only [Act.put, List.setIfInBounds_toArray, List.set_cons_zero, List.set_cons_succ]
      refine take_at 8 93 (v := .pointer (some ⟨yb, yo + k * 10, none⟩)) rfl rfl (by kernel_rfl) (by kernel_rfl) (by kernel_rfl) (fun _ _ _ h => h) (Or.inl ⟨by rfl, fun W hW => by obtain ⟨s1, s2, s3, s4⟩ := hW; go_simp⟩) S0 ?_
      simp only [Act.put, List.setIfInBounds_toArray, List.set_cons_zero, List.set_cons_succ]
      refine take_at 9 94 (v := .agg (cmC c vb vd)) rfl rfl (by kernel_rfl) (by kernel_rfl) (by kernel_rfl) (fun _ _ _ h => h) (yieldsIf_load_mid (by rfl) 40 _ rfl yb (yo + k * 10) rfl (cmC c vb vd).toList _ (fun W hW => hW.2.2.2) Tryd.underlying40 rfl (by rw [cmd_size c vb vd, Array.length_toList])) S0 ?_
      simp only [Act.put, List.setIfInBounds_toArray, List.set_cons_zero, List.set_cons_succ]
      refine wpAnyH_done (by kernel_rfl) ?_ _
      change wpList _ _ _ _ _ _
      clear S0 a1 b1
      go_wp2_with (go_at_call 22; refine HC.out.mono ?_; rintro e w6 ⟨rfl, g6⟩; have R6 := hide (RB.out.on (gr_trans gd.out g6)); clear g6)
      go_roundw
      case rel => exact ⟨k + 1, by omega, by go_num, R6.out⟩
      case measure => simp [intOf]; omega
    · obtain rfl : k = n := by omega
      have hki : ¬ (k : Int) < (k : Int) := by omega
      have f7 := (fm_cells RB.out.f).2.2.2.2.2.2.2.1
      have f8 := (fm_cells RB.out.f).2.2.2.2.2.2.2.2.1
      have g7 := (fm_cells RB.out.g).2.2.2.2.2.2.2.1
      have g8 := (fm_cells RB.out.g).2.2.2.2.2.2.2.2.1
      have N0 : Hid (w = w) := rfl
      have HK2 := hide (fun (W : World) (hg : wr.grownBy W none) => And.intro (HK.out W (gr_trans RB.out.gr hg)) (And.intro (fm_cells (RB.out.on hg).f).2.2.2.2.2.2.2.2.1 (fm_cells (RB.out.on hg).g).2.2.2.2.2.2.2.2.1))
      have GB := hide RB.out.gr
      go_wp2_with (first
        | (go_at_call 23; have t1 := N0; clear t1; refine (HT.out _ GB.out).mono ?_; rintro e w7 ⟨rfl, q7⟩; clear N0 f7 f8 g7 g8 a1 b1; obtain ⟨K7, f8, g8⟩ := HK2.out w7 q7; replace K7 := hide K7; have N1 : Hid (w = w) := rfl; replace q7 := hide (gr_trans GB.out q7); clear HK2)
        | (go_at_call 23; have t1 := N1; clear t1; refine K7.out.mono ?_; rintro e w8 ⟨rfl, q8⟩; clear N1; replace q8 := hide (gr_trans q7.out q8)))
      go_ret
      exact ⟨rfl, q8.out⟩
end
end Go.Proofs.YtfcmnkhfmofioaaDoor
