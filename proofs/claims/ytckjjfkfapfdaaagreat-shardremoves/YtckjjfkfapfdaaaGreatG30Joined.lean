/- What package table does in one bucket: take, over slices.Delete. Conditions: at most 50000 entries. Where package table looks for a text. Conditions: at most 20000 buckets, texts of at most 300 bytes. The table in memory: its head, two rows of buckets, and their entries; New, Len, Buckets, Left, grow. Conditions: none. -/
import Derived.Test.YtckjjfkfapfdaaaGreatG29Joined
import Derived.Laws.CopyRow
import Derived.Deep.RegionHeldLaw
import Derived.RegionTactic
import Derived.Deep.CutBlock
import Derived.Deep.CutRange
import Derived.Deep.QuietTactic
import Derived.BigQuiet
import Derived.Test.YtckjjfkfapfdaaaGreatG23Joined
namespace Go.Proofs.YtckjjfkfapfdaaaGreat
open Go.RowKit

/-- An append at a step of a region that draws its order, its run known as an equation. -/
theorem step_append_run {P : Program} (w : World) {ops : Array Oper} {o : Oper} {a : Act} {K : Act → World → Prop} {Q : Exit → Act → World → Prop} {E : Prop} (d : Tmp) (hd : o.dst = some d) (hgd : o.guard = none) (s x : Operand) (t tn : TypeId)
    (ho : o.op = .call { callee := .builtin .append, args := #[s, x], argTypes := #[t, tn] }) (vs vx : Value) (hs : a.eval s = vs) (hx : a.eval x = vx) (v' : Value) (w' : World) (ty : TypeId) (hty : o.type = ty) (hr : (Builtin.append_ #[t, tn] ty #[vs, vx]).run P w = .ok v' w')
    (h : K (a.put (some d) v') w') : if Region.wanted o (yielded ops a.tmps) = true then Oper.wp P o a w K Q else E := by
  have hw : Region.wanted o (yielded ops a.tmps) = true := by simp [Region.wanted, hgd]
  rw [if_pos hw, ← hd] at *
  exact Lib.wp_append_run w s x t tn ho vs vx hs hx v' w' (hty ▸ hr) h
/-- An entry that has nothing. -/
def zeV : List Value := [.string ⟨#[]⟩, .pointer none]
/-- One entry's cells are cleared. -/
theorem clear_entry {w : World} {g j c : Nat} {cur : Array Value} (hg : w.heap[g]? = some (.cells cur 171 (0, 0))) (hj : j * 2 + 2 ≤ cur.size) (ty : TypeId) :
    (Builtin.clear_ #[168] ty #[.slice (some ⟨g, j * 2, none⟩) 1 c]).run Tryz.prog w = .ok (.tuple #[]) (w.setRow g (cur.toList.take (j * 2) ++ zeV ++ cur.toList.drop (j * 2 + 2)).toArray) := by
  have hst := run_storeCells_at Tryz.prog g (j * 2) 171 zeV 0 _ w hg (by simpa [zeV] using hj) (by simp [zeV, Value.oneCell'])
  have hst2 : (storeCells ⟨g, j * 2, none⟩ zeV 0).run Tryz.prog w = .ok () (w.setRow g (cur.toList.take (j * 2) ++ zeV ++ cur.toList.drop (j * 2 + 2)).toArray) := hst
  have hz : (zeroValue 171).run Tryz.prog w = .ok (.agg #[.string ⟨#[]⟩, .pointer none]) w := by kernel_rfl
  have hc : (Builtin.zeroCells (Value.agg #[Value.string ⟨#[]⟩, .pointer none]).cells 1).toList = zeV := by kernel_rfl
  simp [Builtin.clear_, run_underlying Tryz.underlying168, hz, hc, hst2, Result.andThen]
/-- Behind an entry of a row that is cut by one. -/
theorem clear_behind {w : World} {g n cap : Nat} {xs : List Value} (h : w.ownsRow 0 171 2 (.slice (some ⟨g, 0, none⟩) n cap) n xs) (hn : n < cap) (c : Nat) :
    ∃ w', (∀ ty, (Builtin.clear_ #[168] ty #[.slice (some ⟨g, n * 2, none⟩) 1 c]).run Tryz.prog w = .ok (.tuple #[]) w') ∧ w'.ownsRow 0 171 2 (.slice (some ⟨g, 0, none⟩) n cap) n xs ∧ w.grownBy w' (some g) := by
  have hl := h.1
  rcases h.2 with ⟨h', _⟩ | ⟨g', cap', cur, h', hb, hg, hnc, hcm, hcs, htake⟩
  · simp at h'
  · simp only [Value.slice.injEq, Option.some.injEq, Addr.mk.injEq, and_true, true_and] at h'
    obtain ⟨rfl, rfl⟩ := h'
    have hj : n * 2 + 2 ≤ cur.size := by omega
    refine ⟨_, fun ty => clear_entry hg hj ty, ⟨hl, .inr ⟨g, cap, _, rfl, hb, setRow_heap w g _ _ _ _ hg, hnc, hcm, ?_, ?_⟩⟩, ⟨rfl, rfl, rfl, by simp [World.setRow], fun k _ hk => setRow_other w g k _ (fun e => hk (by rw [e]))⟩⟩
    · simp [zeV]
      omega
    · simp only [List.append_assoc]
      rw [List.take_append_of_le_length (by simp; omega), List.take_take, Nat.min_self]
      exact htake
section
variable {g m n t q cap : Nat}
theorem cut_back (hq : m + 1 + q = n) (hc : n ≤ cap) : ∃ a : Addr, (a = ⟨g, (m + 1) * 2, none⟩ ∨ q = 0) ∧ ∀ w : World, (Instr.sliceAt 168 (.slice (some ⟨g, 0, none⟩) n cap) (some (.int .i64 ((m : Int) + 1))) none none).run Tryz.prog w = .ok (.slice (some a) q (cap - (m + 1))) w := by
  have h1 : ((m : Int) + 1) ≤ (n : Int) := by omega
  have h2 : n - (m + 1) = q := by omega
  have h3 : ((m : Int) + 1).toNat = m + 1 := by omega
  have h4 : (0 : Int) ≤ (m : Int) + 1 := by omega
  by_cases e : cap = m + 1
  · refine ⟨⟨g, 0, none⟩, .inr (by omega), fun w => ?_⟩
    subst e
    go_simp
  · refine ⟨⟨g, (m + 1) * 2, none⟩, .inl rfl, fun w => ?_⟩
    go_simp
theorem cut_three (hq : m + 1 ≤ n) (hc : n ≤ cap) : ∃ u, ∀ w : World, (Instr.sliceAt 168 (.slice (some ⟨g, 0, none⟩) n cap) (some (.int .i64 (m : Int))) (some (.int .i64 ((m : Int) + 1))) (some (.int .i64 (n : Int)))).run Tryz.prog w = .ok u w := by
  have h1 : (n : Int) ≤ (cap : Int) := by omega
  have h3 : ((m : Int) + 1).toNat = m + 1 := by omega
  have h4 : (m : Int) + 1 ≤ (n : Int) := by omega
  have h5 : (0 : Int) ≤ (m : Int) + 1 := by omega
  have h6 : ¬ n = m := by omega
  refine ⟨.slice (some ⟨g, m * 2, none⟩) 1 (n - m), fun w => ?_⟩
  go_simp
theorem cut_front (hc : m ≤ cap) : ∀ w : World, (Instr.sliceAt 168 (.slice (some ⟨g, 0, none⟩) n cap) none (some (.int .i64 (m : Int))) none).run Tryz.prog w = .ok (.slice (some ⟨g, 0, none⟩) m cap) w := fun w => by
  have hki : (m : Int) ≤ (cap : Int) := by omega
  go_simp
theorem cut_rest (ht : t + 1 = n) (hc : n ≤ cap) : ∀ w : World, (Instr.sliceAt 168 (.slice (some ⟨g, 0, none⟩) t cap) (some (.int .i64 (t : Int))) (some (.int .i64 (n : Int))) none).run Tryz.prog w = .ok (.slice (some ⟨g, t * 2, none⟩) 1 (cap - t)) w := fun w => by
  have hki : (n : Int) ≤ (cap : Int) := by omega
  have h1 : (t : Int) ≤ (n : Int) := by omega
  have h2 : n - t = 1 := by omega
  have h3 : ¬ cap = t := by omega
  go_simp
end
set_option maxRecDepth 100000 in
set_option maxHeartbeats 4000000 in
theorem sdel_any {F : Nat → Prop} {w0 w : World} {R : Part} {v : Value} {pre post : List Kv} {p : Kv} (H : LawF F w0 w ((enP v (pre ++ p :: post)).and R)) :
    Calls Tryz.prog 122 #[v, .int .i64 (pre.length : Nat), .int .i64 ((pre.length : Nat) + 1)] w fun e w' => ∃ u, e = .returned u ∧ (∃ a b c, u = .slice a b c) ∧ LawF F w0 w' ((enP u (pre ++ post)).and R) := by
  obtain ⟨g, cap, rfl⟩ := own_form H.q.1 (by simp; omega)
  obtain ⟨hcap, hmax⟩ := own_cap H.q.1
  have hmx : cap ≤ 9223372036854775807 := hmax
  obtain ⟨i0, hi0, hz0, hz1, hz2⟩ := info_parts info_entry
  obtain ⟨m, hm⟩ : ∃ m, pre.length = m := ⟨_, rfl⟩
  obtain ⟨q, hq⟩ : ∃ q, post.length = q := ⟨_, rfl⟩
  obtain ⟨n, hlen⟩ : ∃ n, (pre ++ p :: post).length = n := ⟨_, rfl⟩
  obtain ⟨t, hlen2⟩ : ∃ t, (pre ++ post).length = t := ⟨_, rfl⟩
  have hnm : m + 1 + q = n := by rw [← hlen]; simp; omega
  have htm : m + q = t := by rw [← hlen2]; simp; omega
  have hrow : w.ownsRow 0 171 2 (.slice (some ⟨g, 0, none⟩) n cap) n (enV (pre ++ p :: post)) := by rw [← hlen]; exact H.q.1
  unfold enP at H ⊢
  rw [hlen] at H hcap ⊢
  rw [hlen2, hm]
  have hfront : w.ownsRow 0 171 2 (.slice (some ⟨g, 0, none⟩) m cap) m (enV pre) := by
    have := row_take hrow (k := m) (by omega)
    rwa [enV_take, List.take_left' hm] at this
  have hback : ∀ j u, (enV post)[j]? = some u → w.cell? ⟨g, (m + 1) * 2 + j, none⟩ = some u := by
    intro j u hu
    have hj := (List.getElem?_eq_some_iff.1 hu).1
    rw [enV_len, hq] at hj
    rw [hrow.cellAt _ (by omega)]
    have e : (enV (pre ++ p :: post)).drop ((m + 1) * 2) = enV post := by
      rw [enV_drop _ _ (by rw [hlen]; omega), show pre ++ p :: post = (pre ++ [p]) ++ post by simp, List.drop_left' (by simp; omega)]
    rw [← e, List.getElem?_drop] at hu
    exact hu
  obtain ⟨a, ha, hsl⟩ := cut_back (g := g) hnm hcap
  obtain ⟨u3, hsl3⟩ := cut_three (g := g) (m := m) (n := n) (cap := cap) (by omega) hcap
  have hsl1 := cut_front (g := g) (m := m) (n := n) (cap := cap) (by omega)
  have hsl4 := cut_rest (g := g) (t := t) (n := n) (cap := cap) (by omega) hcap
  have hnews : ∀ j u, (enV post)[j]? = some u → w.drew.cell? (a.add j) = some u := by
    intro j u hu
    rcases ha with rfl | h0
    · have := hback j u hu
      rw [Addr.add_lit]
      exact this
    · have : post = [] := List.length_eq_zero_iff.1 (hq.trans h0)
      subst this
      simp [enV] at hu
  obtain ⟨w1, hr1, ho1, hg1⟩ := run_append_fits (P := Tryz.prog) w.drew 0 168 168 171 i0 2 Tryz.underlying168 hi0 hz1 g m cap (enV pre) hfront.drew a q (cap - (m + 1)) (enV post) (by rw [enV_len, hq]) hnews (enV_cell post) (by omega)
  rw [htm] at hr1 ho1
  rw [← enV_app] at ho1
  obtain ⟨w2, hr2, ho2, hg2⟩ := clear_behind ho1 (by omega) (cap - t)
  have HH := hide ((H.drew.app0 ho1 hg1 (.inl rfl)).app0 ho2 hg2 (.inl rfl))
  have hR1 := hide hr1
  have hne : ((m : Int) == (m : Int) + 1) = false := beq_eq_false_iff_ne.2 (by omega)
  clear H hrow hfront hback hnews ha hr1 ho1 hg1 ho2 hg2 hm hq hlen hlen2
  go_enter Tryz.func122, Tryz.ntmps122
  go_upto_region 5 with fail
  go_region_held_law (fun _ => True) (trivial) ((refine step_append_run _ 26 rfl rfl _ _ 168 168 rfl _ _ rfl rfl _ _ 168 rfl hR1.out ?_))
  go_wp2
  go_ret
  exact ⟨_, rfl, ⟨_, _, _, rfl⟩, HH.out⟩
set_option maxRecDepth 100000 in
set_option maxHeartbeats 2000000 in
theorem btake_any {F : Nat → Prop} {w0 w : World} {R : Part} {g n cap i : Nat} {f : Nat → Value} {l : List Kv} (H : LawF F w0 w ((arP (.slice (some ⟨g, 0, none⟩) n cap) n f).and ((enP (f i) l).and R))) (hi : i < n) (hn : l.length ≤ 50000) (k : ByteArray) :
    Calls Tryz.prog 91 #[.pointer (some ⟨g, i, none⟩), .string k] w fun e w' => e = .returned (.bool (bhas k l)) ∧ ∃ u, LawF F w0 w' ((arP (.slice (some ⟨g, 0, none⟩) n cap) n (updF f i u)).and ((enP u (bdel k l)).and R)) := by
  obtain ⟨hc, -⟩ := ar_cell H.q.1 hi
  have hv : rowE w (f i) l := H.q.2.1.1
  rcases b_cases k l with ⟨pre, x, post, rfl, hpre⟩ | hno
  · have HF := hide (find_hit hv (by omega) hpre g i hc)
    rw [bhas_hit, bdel_hit hpre]
    have HH := hide H
    have hmn : pre.length < (pre ++ (k, x) :: post).length := by simp
    have hml : pre.length ≤ 50000 := by omega
    clear hv hpre H
    have hm0 : ¬ (pre.length : Int) < 0 := by omega
    have HD := hide (fun W (L : LawF F w0 W ((enP (f i) (pre ++ (k, x) :: post)).and ((arP (.slice (some ⟨g, 0, none⟩) n cap) n f).and R))) => sdel_any L)
    clear hn hmn
    generalize pre ++ (k, x) :: post = l at *
    generalize pre ++ post = l' at *
    generalize pre.length = m at *
    have e1 : wrap64 ((m : Int) + 1) = (m : Int) + 1 := by unfold wrap64; omega
    go_enter Tryz.func91, Tryz.ntmps91
    go_wp2_with (first
      | (go_at_call 121; refine HF.out.mono ?_; rintro e w1 ⟨rfl, hg1⟩; have hc1 := cell_grown0 hg1 hc; have H1 := hide (HH.out.step hg1))
      | (go_at_call 122; refine (HD.out _ H1.out.rot).mono ?_; rintro e w2 ⟨u, rfl, ⟨ua, ub, uc, rfl⟩, H2⟩; replace H2 := hide H2.rot; obtain ⟨d1, d2⟩ := ar_cell H2.out.q.1 hi))
    go_ret
    exact ⟨rfl, _, H2.out.bkSet (i := i) (.slice ua ub uc)⟩
  · have HF := hide (find_miss hv (by omega) hno g i hc)
    rw [bhas_miss hno, bdel_miss hno]
    have HH := hide H
    clear hv hno H
    go_enter Tryz.func91, Tryz.ntmps91
    go_wp2_with (go_at_call 121; refine HF.out.mono ?_; rintro e w1 ⟨rfl, hg1⟩)
    go_ret
    refine ⟨rfl, f i, ?_⟩
    rw [updF_self]
    exact HH.out.step hg1
end Go.Proofs.YtckjjfkfapfdaaaGreat

namespace Go.Proofs.YtckjjfkfapfdaaaGreat
open Go.RowKit

theorem below_pl (sd n : Nat) (k : ByteArray) (hn : 0 < n) : belowN (ofN sd k.data.toList) (n : Int) = ((plN sd n k : Nat) : Int) := by
  unfold belowN plN
  rw [if_neg (by omega)]
  rfl
theorem head4 {w : World} {b : Nat} {t : TypeId} {x y z u : Value} (h : w.heap[b]? = some (.cells #[x, y, z, u] t (0, 0))) : w.cell? ⟨b, 0, none⟩ = some x ∧ w.cell? ⟨b, 1, none⟩ = some y ∧ w.cell? ⟨b, 2, none⟩ = some z ∧ w.cell? ⟨b, 3, none⟩ = some u := by
  simp [World.cell?, h]
set_option maxRecDepth 100000 in
set_option maxHeartbeats 2000000 in
theorem place_old {w : World} {b sd N left gE cB cE : Nat} {aB : Option Addr} {many : Int} (hw : w.heap[b]? = some (.cells #[.int .u64 sd, .int .i64 many, .slice aB N cB, .slice (some ⟨gE, 0, none⟩) left cE] 110 (0, 0))) (hsd : sd < 18446744073709551616) (hN : 8 ≤ N) (hN2 : N ≤ 20000) (k : ByteArray) (hk : k.size ≤ 300) (hp : plN sd (N / 2) k < left) :
    Calls Tryz.prog 89 #[.pointer (some ⟨b, 0, none⟩), .string k] w fun e w' => e = .returned (.pointer (some ⟨gE, plN sd (N / 2) k, none⟩)) ∧ w.grownBy w' none := by
  obtain ⟨c0, -, c2, c3⟩ := head4 hw
  obtain ⟨h, hh⟩ : ∃ h, ofN sd k.data.toList = h := ⟨_, rfl⟩
  have hlt : h < 18446744073709551616 := by rw [← hh]; exact of_lt _ _
  have HB := hide (below_pl sd (N / 2) k (by omega))
  rw [hh] at HB
  have HO := hide (fun W => of_any sd hsd k (by omega) W)
  rw [hh] at HO
  have hpN : plN sd (N / 2) k < N / 2 := Nat.mod_lt _ (by omega)
  obtain ⟨p, hpp⟩ : ∃ p, plN sd (N / 2) k = p := ⟨_, rfl⟩
  rw [hpp] at hp HB hpN ⊢
  have hpi : (p : Int) < (left : Int) := by omega
  have HL := hide (fun W => below_any h hlt ((N / 2 : Nat) : Int) (by omega) (by omega) W)
  rw [HB.out] at HL
  clear hw hh hpp HB
  go_enter Tryz.func89, Tryz.ntmps89
  go_wp2_with (first
    | (go_at_call 119; refine (HO.out _).mono ?_; rintro e w1 ⟨rfl, rfl⟩)
    | (go_at_call 120; refine (HL.out _).mono ?_; rintro e w1 ⟨rfl, rfl⟩))
  go_ret
  exact ⟨rfl, gr_refl _ _⟩
set_option maxRecDepth 100000 in
set_option maxHeartbeats 2000000 in
theorem place_new {w : World} {b sd N left gB cB cE : Nat} {aE : Option Addr} {many : Int} (hw : w.heap[b]? = some (.cells #[.int .u64 sd, .int .i64 many, .slice (some ⟨gB, 0, none⟩) N cB, .slice aE left cE] 110 (0, 0))) (hsd : sd < 18446744073709551616) (hN : 8 ≤ N) (hN2 : N ≤ 20000) (k : ByteArray) (hk : k.size ≤ 300) (hp : left ≤ plN sd (N / 2) k) :
    Calls Tryz.prog 89 #[.pointer (some ⟨b, 0, none⟩), .string k] w fun e w' => e = .returned (.pointer (some ⟨gB, plN sd N k, none⟩)) ∧ w.grownBy w' none := by
  obtain ⟨c0, -, c2, c3⟩ := head4 hw
  have c2' : w.drew.cell? ⟨b, 2, none⟩ = some (.slice (some ⟨gB, 0, none⟩) N cB) := c2
  obtain ⟨h, hh⟩ : ∃ h, ofN sd k.data.toList = h := ⟨_, rfl⟩
  have hlt : h < 18446744073709551616 := by rw [← hh]; exact of_lt _ _
  have HB := hide (below_pl sd (N / 2) k (by omega))
  have HB2 := hide (below_pl sd N k (by omega))
  rw [hh] at HB HB2
  have HO := hide (fun W => of_any sd hsd k (by omega) W)
  rw [hh] at HO
  have hpN : plN sd (N / 2) k < N / 2 := Nat.mod_lt _ (by omega)
  have hqN : plN sd N k < N := Nat.mod_lt _ (by omega)
  obtain ⟨p, hpp⟩ : ∃ p, plN sd (N / 2) k = p := ⟨_, rfl⟩
  obtain ⟨q, hqq⟩ : ∃ q, plN sd N k = q := ⟨_, rfl⟩
  rw [hpp] at hp HB hpN
  rw [hqq] at hqN HB2 ⊢
  have hpi : ¬ (p : Int) < (left : Int) := by omega
  have hqi : (q : Int) < (N : Int) := by omega
  have hqd : decide (q < N) = true := decide_eq_true hqN
  have HL := hide (fun W => below_any h hlt ((N / 2 : Nat) : Int) (by omega) (by omega) W)
  have HL2 := hide (fun W => below_any h hlt (N : Int) (by omega) (by omega) W)
  rw [HB.out] at HL
  rw [HB2.out] at HL2
  clear hw hh hpp hqq HB HB2
  go_enter Tryz.func89, Tryz.ntmps89
  go_upto_region 5 with (first
    | (go_at_call 119; refine (HO.out _).mono ?_; rintro e w1 ⟨rfl, rfl⟩)
    | (go_at_call 120; refine (HL.out _).mono ?_; rintro e w1 ⟨rfl, rfl⟩))
  go_quiet ((go_at_call 120; refine Calls.quiet_of_same ((HL2.out _).mono fun e w' h => ⟨h.1, h.2.symm⟩)))
  go_wp2
  go_ret
  exact ⟨rfl, ⟨rfl, rfl, rfl, Nat.le_refl _, fun _ _ _ => rfl⟩⟩
end Go.Proofs.YtckjjfkfapfdaaaGreat

namespace Go.Proofs.YtckjjfkfapfdaaaGreat
open Go.RowKit

abbrev headT (b sd many : Nat) (vB vE : Value) : Part := boxP b (.cells #[.int .u64 sd, .int .i64 (many : Nat), vB, vE] 110)
def enF (f : Nat → Value) (B : Nat → List Kv) (i : Nat) : Part := enP (f i) (B i)
/-- The table at block b. -/
def tabP (b sd many : Nat) (vB vE : Value) (N left : Nat) (bv ev : Nat → Value) (B E : Nat → List Kv) : Part :=
  (headT b sd many vB vE).and ((arP vB N bv).and ((manyP (· < N) (enF bv B)).and ((arP vE left ev).and ((manyP (· < left) (enF ev E)).and Part.emp))))
theorem toE_q {w : World} {A B C D E R : Part} (h : (A.and (B.and (C.and (D.and (E.and R))))).q w) : (D.and (E.and (A.and (B.and (C.and R))))).q w := by
  obtain ⟨hA, ⟨hB, ⟨hC, ⟨hD, ⟨hE, hR, hER⟩, hD2⟩, hC2⟩, hB2⟩, hA2⟩ := h
  refine ⟨hD, ⟨hE, ⟨hA, ⟨hB, ⟨hC, hR, ?_⟩, ?_⟩, ?_⟩, ?_⟩, ?_⟩
  · exact fun k h1 h2 => hC2 k h1 (.inr (.inr h2))
  · rintro k h1 (h2 | h2)
    · exact hB2 k h1 (.inl h2)
    · exact hB2 k h1 (.inr (.inr (.inr h2)))
  · rintro k h1 (h2 | h2 | h2)
    · exact hA2 k h1 (.inl h2)
    · exact hA2 k h1 (.inr (.inl h2))
    · exact hA2 k h1 (.inr (.inr (.inr (.inr h2))))
  · rintro k h1 (h2 | h2 | h2 | h2)
    · exact hA2 k h2 (.inr (.inr (.inr (.inl h1))))
    · exact hB2 k h2 (.inr (.inr (.inl h1)))
    · exact hC2 k h2 (.inr (.inl h1))
    · exact hER k h1 h2
  · rintro k h1 (h2 | h2 | h2 | h2 | h2)
    · exact hD2 k h1 (.inl h2)
    · exact hA2 k h2 (.inr (.inr (.inl h1)))
    · exact hB2 k h2 (.inr (.inl h1))
    · exact hC2 k h2 (.inl h1)
    · exact hD2 k h1 (.inr h2)
theorem fromE_q {w : World} {A B C D E R : Part} (h : (D.and (E.and (A.and (B.and (C.and R))))).q w) : (A.and (B.and (C.and (D.and (E.and R))))).q w := by
  obtain ⟨hD, ⟨hE, ⟨hA, ⟨hB, ⟨hC, hR, hCR⟩, hB2⟩, hA2⟩, hE2⟩, hD2⟩ := h
  refine ⟨hA, ⟨hB, ⟨hC, ⟨hD, ⟨hE, hR, ?_⟩, ?_⟩, ?_⟩, ?_⟩, ?_⟩
  · exact fun k h1 h2 => hE2 k h1 (.inr (.inr (.inr h2)))
  · rintro k h1 (h2 | h2)
    · exact hD2 k h1 (.inl h2)
    · exact hD2 k h1 (.inr (.inr (.inr (.inr h2))))
  · rintro k h1 (h2 | h2 | h2)
    · exact hD2 k h2 (.inr (.inr (.inr (.inl h1))))
    · exact hE2 k h2 (.inr (.inr (.inl h1)))
    · exact hCR k h1 h2
  · rintro k h1 (h2 | h2 | h2 | h2)
    · exact hB2 k h1 (.inl h2)
    · exact hD2 k h2 (.inr (.inr (.inl h1)))
    · exact hE2 k h2 (.inr (.inl h1))
    · exact hB2 k h1 (.inr h2)
  · rintro k h1 (h2 | h2 | h2 | h2 | h2)
    · exact hA2 k h1 (.inl h2)
    · exact hA2 k h1 (.inr (.inl h2))
    · exact hD2 k h2 (.inr (.inl h1))
    · exact hE2 k h2 (.inl h1)
    · exact hA2 k h1 (.inr (.inr h2))
section
variable {F : Nat → Prop} {w0 w : World} {A B C D E R : Part}
theorem LawF.toE (H : LawF F w0 w (A.and (B.and (C.and (D.and (E.and R)))))) : LawF F w0 w (D.and (E.and (A.and (B.and (C.and R))))) := H.weak (fun h => toE_q h) fun k hk => by
  rcases hk with h | h | h | h | h | h
  · exact .inr (.inr (.inr (.inl h)))
  · exact .inr (.inr (.inr (.inr (.inl h))))
  · exact .inl h
  · exact .inr (.inl h)
  · exact .inr (.inr (.inl h))
  · exact .inr (.inr (.inr (.inr (.inr h))))
theorem LawF.fromE (H : LawF F w0 w (D.and (E.and (A.and (B.and (C.and R)))))) : LawF F w0 w (A.and (B.and (C.and (D.and (E.and R))))) := H.weak (fun h => fromE_q h) fun k hk => by
  rcases hk with h | h | h | h | h | h
  · exact .inr (.inr (.inl h))
  · exact .inr (.inr (.inr (.inl h)))
  · exact .inr (.inr (.inr (.inr (.inl h))))
  · exact .inl h
  · exact .inr (.inl h)
  · exact .inr (.inr (.inr (.inr (.inr h))))
end
section
variable {F : Nat → Prop} {w0 w : World} {R : Part} {v u : Value} {n i : Nat} {f : Nat → Value} {B : Nat → List Kv} {L : List Kv}
/-- One bucket of a row of them. -/
theorem LawF.sel (H : LawF F w0 w ((arP v n f).and ((manyP (· < n) (enF f B)).and R))) (hi : i < n) : LawF F w0 w ((arP v n f).and ((enP (f i) (B i)).and ((manyP (fun j => j < n ∧ j ≠ i) (enF f B)).and R))) := (H.rot.pick i hi).rin.rot
theorem LawF.unsel (H : LawF F w0 w ((arP v n (updF f i u)).and ((enP u L).and ((manyP (fun j => j < n ∧ j ≠ i) (enF f B)).and R)))) : LawF F w0 w ((arP v n (updF f i u)).and ((manyP (· < n) (enF (updF f i u) (updF B i L))).and R)) := by
  have H1 := (H.rot.rin.back).rot
  have e : turnAt (enF f B) i (enP u L) = enF (updF f i u) (updF B i L) := by
    funext j
    unfold turnAt enF updF
    by_cases h : j = i
    · rw [if_pos h, if_pos h, if_pos h]
    · rw [if_neg h, if_neg h, if_neg h]
  rw [e] at H1
  exact H1
end
/-- What a table has, in whatever buckets. -/
structure TabL (F : Nat → Prop) (w0 w : World) (b : Nat) (st : Ts) (sd : Nat) (vB vE : Value) (bv ev : Nat → Value) (B E : Nat → List Kv) : Prop where
  law : LawF F w0 w (tabP b sd st.l.length vB vE st.buckets st.left bv ev B E)
  fit : FitT sd st.buckets st.left B E st.l
  seed : sd < 18446744073709551616
  short : ∀ p ∈ st.l, p.1.size ≤ 300
def Tab (F : Nat → Prop) (w0 w : World) (b : Nat) (st : Ts) : Prop := ∃ sd vB vE bv ev B E, TabL F w0 w b st sd vB vE bv ev B E
def Tb0 (w : World) (b : Nat) (own : Nat → Prop) (st : Ts) : Prop :=
  ∃ sd vB vE bv ev B E, own = (tabP b sd st.l.length vB vE st.buckets st.left bv ev B E).own ∧ (tabP b sd st.l.length vB vE st.buckets st.left bv ev B E).q w ∧ (∀ k, own k → k < w.heap.size) ∧ FitT sd st.buckets st.left B E st.l ∧ sd < 18446744073709551616 ∧ (∀ p ∈ st.l, p.1.size ≤ 300) ∧ GoodT st
theorem Tb0.tab {w : World} {b : Nat} {own : Nat → Prop} {st : Ts} (h : Tb0 w b own st) : Tab own w w b st := by
  obtain ⟨sd, vB, vE, bv, ev, B, E, rfl, h2, h3, h4, h5, h6, _⟩ := h
  exact ⟨sd, vB, vE, bv, ev, B, E, LawF.start h2 h3, h4, h5, h6⟩
theorem Tab.done {F : Nat → Prop} {w0 w : World} {b : Nat} {st : Ts} (h : Tab F w0 w b st) (G : GoodT st) : ∃ own', Tb0 w b own' st ∧ Gr F w0 w ∧ Grew w0 F own' := by
  obtain ⟨sd, vB, vE, bv, ev, B, E, L, h4, h5, h6⟩ := h
  exact ⟨_, ⟨sd, vB, vE, bv, ev, B, E, rfl, L.q, fun k hk => (L.lt k hk).1, h4, h5, h6, G⟩, L.gr, L.grew⟩
theorem Tab.step {F : Nat → Prop} {w0 w w' : World} {b : Nat} {st : Ts} (h : Tab F w0 w b st) (hg : w.grownBy w' none) : Tab F w0 w' b st := by
  obtain ⟨sd, vB, vE, bv, ev, B, E, L, h4, h5, h6⟩ := h
  exact ⟨sd, vB, vE, bv, ev, B, E, L.step hg, h4, h5, h6⟩
theorem refs_rep (n : Nat) (x : Value) : List.replicate n x = refs n (fun _ => x) := by
  unfold refs
  apply List.ext_getElem?
  intro i
  by_cases h : i < n <;> simp [h]
/-- Empty buckets. -/
theorem make_buckets (w : World) (n : Nat) (hn : n ≤ 100000) : ∃ w', (Instr.makeSlice 108 (.int .i64 (n : Int)) (.int .i64 (n : Int))).run Tryz.prog w = .ok (.slice (some ⟨w.heap.size, 0, none⟩) n n) w' ∧ w'.ownsRow 0 168 1 (.slice (some ⟨w.heap.size, 0, none⟩) n n) n (refs n fun _ => .slice none 0 0) ∧ w.grownBy w' none := by
  obtain ⟨i0, hi0, hz0, hz1, hz2⟩ := info_parts info_bucket
  obtain ⟨w', h1, h2, h3⟩ := run_make_full (P := Tryz.prog) w 0 108 168 i0 (.slice none 0 0) 1 Tryz.underlying108 hi0 hz0 hz1 .i64 .i64 n (by rw [hz2]; omega) (by unfold maxLen; omega) (Nat.zero_le _)
  refine ⟨w', h1, ?_, h3⟩
  have e : (Value.slice none 0 0).cells = #[.slice none 0 0] := rfl
  rw [e, Nat.mul_one, toList_madeCells_one, refs_rep] at h2
  exact h2
theorem LawF.made {F : Nat → Prop} {w0 w w' : World} {R : Part} {n : Nat} (H : LawF F w0 w R) (hown : w'.ownsRow 0 168 1 (.slice (some ⟨w.heap.size, 0, none⟩) n n) n (refs n fun _ => .slice none 0 0)) (hg : w.grownBy w' none) : LawF F w0 w' ((arP (.slice (some ⟨w.heap.size, 0, none⟩) n n) n fun _ => .slice none 0 0).and ((manyP (· < n) (enF (fun _ => .slice none 0 0) fun _ => [])).and R)) := by
  have H1 := H.many0 (I := (· < n)) (A := enF (fun _ => .slice none 0 0) fun _ => []) (fun i _ => World.ownsRow_nil _ _ _ _) (fun i k hk => by cases hk)
  refine H1.new hg hown fun k hk => ?_
  have hk' : w.heap.size = k := by
    have : some w.heap.size = some k := hk
    exact Option.some.inj this
  subst hk'
  exact ⟨Nat.le_refl _, (own_at hown rfl).2.1⟩
set_option maxRecDepth 100000 in
set_option maxHeartbeats 2000000 in
theorem tnew_any (sd : Nat) (hsd : sd < 18446744073709551616) (w : World) : Calls Tryz.prog 31 #[.int .u64 sd] w fun e w' => ∃ b own, e = .returned (.pointer (some ⟨b, 0, none⟩)) ∧ (∀ k, own k → w.heap.size ≤ k) ∧ Tb0 w' b own freshT ∧ w.grownBy w' none := by
  obtain ⟨w1, hr0, ho1, hg1⟩ := make_buckets w 8 (by decide)
  have hr1 : (Instr.makeSlice 108 (.int .i64 8) (.int .i64 8)).run Tryz.prog w = .ok (.slice (some ⟨w.heap.size, 0, none⟩) 8 8) w1 := hr0
  have L0 := (LawF.bare w).many0 (I := (· < 0)) (A := enF (fun _ => .slice none 0 0) fun _ => []) (fun i _ => World.ownsRow_nil _ _ _ _) (fun i k hk => by cases hk)
  have L1 := (L0.nil (n0 := 0) (e := 168) (size := 1)).made ho1 hg1
  have L2 := L1.box (.cells #[.int .u64 sd, .int .i64 0, .slice (some ⟨w.heap.size, 0, none⟩) 8 8, .slice none 0 0] 110)
  have HL := hide L2
  have hg2 := gr_trans hg1 (World.grownBy_alloc w1 (.cells #[.int .u64 sd, .int .i64 0, .slice (some ⟨w.heap.size, 0, none⟩) 8 8, .slice none 0 0] 110) none)
  clear L0 L1 L2 ho1 hg1 hr0
  go_enter Tryz.func31, Tryz.ntmps31
  go_wp2
  go_ret
  refine ⟨_, rfl, _, ?_, ⟨sd, _, _, _, _, _, _, rfl, HL.out.q, fun k hk => (HL.out.lt k hk).1, ⟨?_, fun i hi => absurd hi (Nat.not_lt_zero _), fun i _ p hp => (by cases hp)⟩, hsd, fun p hp => (by cases hp), good_freshT⟩, hg2⟩
  · intro k hk
    exact (HL.out.lt k hk).2.elim (fun h => h.elim) id
  · show (flatN 0 _ ++ flatN 8 _).Perm []
    rw [flat_none]
    exact List.Perm.refl _
section
variable {w : World} {b : Nat} {own : Nat → Prop} {st : Ts}
set_option maxHeartbeats 1000000 in
theorem tlen_any (h : Tb0 w b own st) : Calls Tryz.prog 45 #[.pointer (some ⟨b, 0, none⟩)] w fun e w' => e = .returned (.int .i64 st.l.length) ∧ w' = w := by
  obtain ⟨sd, vB, vE, bv, ev, B, E, L⟩ := h.tab
  obtain ⟨-, c1, -, -⟩ := head4 L.law.q.1
  clear L
  go_enter Tryz.func45, Tryz.ntmps45
  go_wp2
  go_ret
  exact ⟨rfl, rfl⟩
end
end Go.Proofs.YtckjjfkfapfdaaaGreat
