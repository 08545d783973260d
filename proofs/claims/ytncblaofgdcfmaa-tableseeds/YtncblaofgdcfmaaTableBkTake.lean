/- What package table does in one bucket: take, over slices.Delete. Conditions: at most 50000 entries. -/
import Derived.Test.YtncblaofgdcfmaaTableBkPut
import Derived.Laws.CopyRow
import Derived.Deep.RegionHeldLaw
import Derived.RegionTactic
import Derived.Deep.CutBlock
import Derived.Deep.CutRange
import Derived.Deep.QuietTactic
import Derived.BigQuiet
namespace Go.Proofs.Ytncblaofgdcfmaa
open Go.RowKit

/-- An append at a step of a region that draws its order, its run known as an equation. -/
theorem step_append_run {P : Program} (w : World) {ops : Array Oper} {o : Oper} {a : Act} {K : Act → World → Prop} {Q : Exit → Act → World → Prop} {E : Prop} (d : Tmp) (hd : o.dst = some d) (hgd : o.guard = none) (s x : Operand) (t tn : TypeId)
    (ho : o.op = .call { callee := .builtin .append, args := #[s, x], argTypes := #[t, tn] }) (vs vx : Value) (hs : a.eval s = vs) (hx : a.eval x = vx) (v' : Value) (w' : World) (ty : TypeId) (hty : o.type = ty) (hr : (Builtin.append_ #[t, tn] ty #[vs, vx]).run P w = .ok v' w')
    (h : K (a.put (some d) v') w') : if Region.wanted o (yielded ops a.tmps) = true then Oper.wp P o a w K Q else E := by
  have hw : Region.wanted o (yielded ops a.tmps) = true := by simp [Region.wanted, hgd]
  rw [if_pos hw, ← hd] at *
  exact Lib.wp_append_run w s x t tn ho vs vx hs hx v' w' (hty ▸ hr) h
/-- An entry that has nothing. -/
def zeV : List Value := [.string ⟨#[]⟩, .int .i64 0]
/-- One entry's cells are cleared. -/
theorem clear_entry {w : World} {g j c : Nat} {cur : Array Value} (hg : w.heap[g]? = some (.cells cur 63 (0, 0))) (hj : j * 2 + 2 ≤ cur.size) (ty : TypeId) :
    (Builtin.clear_ #[61] ty #[.slice (some ⟨g, j * 2, none⟩) 1 c]).run Try.prog w = .ok (.tuple #[]) (w.setRow g (cur.toList.take (j * 2) ++ zeV ++ cur.toList.drop (j * 2 + 2)).toArray) := by
  have hst := run_storeCells_at Try.prog g (j * 2) 63 zeV 0 _ w hg (by simpa [zeV] using hj) (by simp [zeV, Value.oneCell'])
  have hst2 : (storeCells ⟨g, j * 2, none⟩ zeV 0).run Try.prog w = .ok () (w.setRow g (cur.toList.take (j * 2) ++ zeV ++ cur.toList.drop (j * 2 + 2)).toArray) := hst
  have hz : (zeroValue 63).run Try.prog w = .ok (.agg #[.string ⟨#[]⟩, .int .i64 0]) w := by kernel_rfl
  have hc : (Builtin.zeroCells (Value.agg #[Value.string ⟨#[]⟩, .int .i64 0]).cells 1).toList = zeV := by kernel_rfl
  simp [Builtin.clear_, run_underlying Try.underlying61, hz, hc, hst2, Result.andThen]
/-- Behind an entry of a row that is cut by one. -/
theorem clear_behind {w : World} {g n cap : Nat} {xs : List Value} (h : w.ownsRow 0 63 2 (.slice (some ⟨g, 0, none⟩) n cap) n xs) (hn : n < cap) (c : Nat) :
    ∃ w', (∀ ty, (Builtin.clear_ #[61] ty #[.slice (some ⟨g, n * 2, none⟩) 1 c]).run Try.prog w = .ok (.tuple #[]) w') ∧ w'.ownsRow 0 63 2 (.slice (some ⟨g, 0, none⟩) n cap) n xs ∧ w.grownBy w' (some g) := by
  have hl := h.1
  rcases h.2 with ⟨h', _⟩ | ⟨g', cap', cur, h', hb, hg, hnc, hcm, hcs, htake⟩
  · simp at h'
  · simp only [Value.slice.injEq, Option.some.injEq, Addr.mk.injEq, and_true, true_and] at h'
    obtain ⟨rfl, rfl⟩ := h'
    have hj : n * 2 + 2 ≤ cur.size := by omega
    refine ⟨_, fun ty => clear_entry hg hj ty, ⟨hl, .inr ⟨g, cap, _, rfl, hb, setRow_heap w g _ _ _ _ hg, hnc, hcm, ?_, ?_⟩⟩, ⟨rfl, rfl, rfl, by simp [World.setRow], fun k _ hk => setRow_other w g k _ (fun e => hk (by rw [e]))⟩⟩
    · simp [zeV]
      omega
    · simp only [List.append_assoc]
      rw [List.take_append_of_le_length (by simp; omega), List.take_take, Nat.min_self]
      exact htake
section
variable {g m n t q cap : Nat}
theorem cut_back (hq : m + 1 + q = n) (hc : n ≤ cap) : ∃ a : Addr, (a = ⟨g, (m + 1) * 2, none⟩ ∨ q = 0) ∧ ∀ w : World, (Instr.sliceAt 61 (.slice (some ⟨g, 0, none⟩) n cap) (some (.int .i64 ((m : Int) + 1))) none none).run Try.prog w = .ok (.slice (some a) q (cap - (m + 1))) w := by
  have h1 : ((m : Int) + 1) ≤ (n : Int) := by omega
  have h2 : n - (m + 1) = q := by omega
  have h3 : ((m : Int) + 1).toNat = m + 1 := by omega
  have h4 : (0 : Int) ≤ (m : Int) + 1 := by omega
  by_cases e : cap = m + 1
  · refine ⟨⟨g, 0, none⟩, .inr (by omega), fun w => ?_⟩
    subst e
    go_simp
  · refine ⟨⟨g, (m + 1) * 2, none⟩, .inl rfl, fun w => ?_⟩
    go_simp
theorem cut_three (hq : m + 1 ≤ n) (hc : n ≤ cap) : ∃ u, ∀ w : World, (Instr.sliceAt 61 (.slice (some ⟨g, 0, none⟩) n cap) (some (.int .i64 (m : Int))) (some (.int .i64 ((m : Int) + 1))) (some (.int .i64 (n : Int)))).run Try.prog w = .ok u w := by
  have h1 : (n : Int) ≤ (cap : Int) := by omega
  have h3 : ((m : Int) + 1).toNat = m + 1 := by omega
  have h4 : (m : Int) + 1 ≤ (n : Int) := by omega
  have h5 : (0 : Int) ≤ (m : Int) + 1 := by omega
  have h6 : ¬ n = m := by omega
  refine ⟨.slice (some ⟨g, m * 2, none⟩) 1 (n - m), fun w => ?_⟩
  go_simp
theorem cut_front (hc : m ≤ cap) : ∀ w : World, (Instr.sliceAt 61 (.slice (some ⟨g, 0, none⟩) n cap) none (some (.int .i64 (m : Int))) none).run Try.prog w = .ok (.slice (some ⟨g, 0, none⟩) m cap) w := fun w => by
  have hki : (m : Int) ≤ (cap : Int) := by omega
  go_simp
theorem cut_rest (ht : t + 1 = n) (hc : n ≤ cap) : ∀ w : World, (Instr.sliceAt 61 (.slice (some ⟨g, 0, none⟩) t cap) (some (.int .i64 (t : Int))) (some (.int .i64 (n : Int))) none).run Try.prog w = .ok (.slice (some ⟨g, t * 2, none⟩) 1 (cap - t)) w := fun w => by
  have hki : (n : Int) ≤ (cap : Int) := by omega
  have h1 : (t : Int) ≤ (n : Int) := by omega
  have h2 : n - t = 1 := by omega
  have h3 : ¬ cap = t := by omega
  go_simp
end
set_option maxRecDepth 100000 in
set_option maxHeartbeats 4000000 in
theorem sdel_any {F : Nat → Prop} {w0 w : World} {R : Part} {v : Value} {pre post : List Kv} {p : Kv} (H : LawF F w0 w ((enP v (pre ++ p :: post)).and R)) :
    Calls Try.prog 36 #[v, .int .i64 (pre.length : Nat), .int .i64 ((pre.length : Nat) + 1)] w fun e w' => ∃ u, e = .returned u ∧ (∃ a b c, u = .slice a b c) ∧ LawF F w0 w' ((enP u (pre ++ post)).and R) := by
  obtain ⟨g, cap, rfl⟩ := own_form H.q.1 (by simp; omega)
  obtain ⟨hcap, hmax⟩ := own_cap H.q.1
  have hmx : cap ≤ 9223372036854775807 := hmax
  obtain ⟨i0, hi0, hz0, hz1, hz2⟩ := info_parts info_entry
  obtain ⟨m, hm⟩ : ∃ m, pre.length = m := ⟨_, rfl⟩
  obtain ⟨q, hq⟩ : ∃ q, post.length = q := ⟨_, rfl⟩
  obtain ⟨n, hlen⟩ : ∃ n, (pre ++ p :: post).length = n := ⟨_, rfl⟩
  obtain ⟨t, hlen2⟩ : ∃ t, (pre ++ post).length = t := ⟨_, rfl⟩
  have hnm : m + 1 + q = n := by rw [← hlen]; simp; omega
  have htm : m + q = t := by rw [← hlen2]; simp; omega
  have hrow : w.ownsRow 0 63 2 (.slice (some ⟨g, 0, none⟩) n cap) n (enV (pre ++ p :: post)) := by rw [← hlen]; exact H.q.1
  unfold enP at H ⊢
  rw [hlen] at H hcap ⊢
  rw [hlen2, hm]
  have hfront : w.ownsRow 0 63 2 (.slice (some ⟨g, 0, none⟩) m cap) m (enV pre) := by
    have := row_take hrow (k := m) (by omega)
    rwa [enV_take, List.take_left' hm] at this
  have hback : ∀ j u, (enV post)[j]? = some u → w.cell? ⟨g, (m + 1) * 2 + j, none⟩ = some u := by
    intro j u hu
    have hj := (List.getElem?_eq_some_iff.1 hu).1
    rw [enV_len, hq] at hj
    rw [hrow.cellAt _ (by omega)]
    have e : (enV (pre ++ p :: post)).drop ((m + 1) * 2) = enV post := by
      rw [enV_drop _ _ (by rw [hlen]; omega), show pre ++ p :: post = (pre ++ [p]) ++ post by simp, List.drop_left' (by simp; omega)]
    rw [← e, List.getElem?_drop] at hu
    exact hu
  obtain ⟨a, ha, hsl⟩ := cut_back (g := g) hnm hcap
  obtain ⟨u3, hsl3⟩ := cut_three (g := g) (m := m) (n := n) (cap := cap) (by omega) hcap
  have hsl1 := cut_front (g := g) (m := m) (n := n) (cap := cap) (by omega)
  have hsl4 := cut_rest (g := g) (t := t) (n := n) (cap := cap) (by omega) hcap
  have hnews : ∀ j u, (enV post)[j]? = some u → w.drew.cell? (a.add j) = some u := by
    intro j u hu
    rcases ha with rfl | h0
    · have := hback j u hu
      rw [Addr.add_lit]
      exact this
    · have : post = [] := List.length_eq_zero_iff.1 (hq.trans h0)
      subst this
      simp [enV] at hu
  obtain ⟨w1, hr1, ho1, hg1⟩ := run_append_fits (P := Try.prog) w.drew 0 61 61 63 i0 2 Try.underlying61 hi0 hz1 g m cap (enV pre) hfront.drew a q (cap - (m + 1)) (enV post) (by rw [enV_len, hq]) hnews (enV_cell post) (by omega)
  rw [htm] at hr1 ho1
  rw [← enV_app] at ho1
  obtain ⟨w2, hr2, ho2, hg2⟩ := clear_behind ho1 (by omega) (cap - t)
  have HH := hide ((H.drew.app0 ho1 hg1 (.inl rfl)).app0 ho2 hg2 (.inl rfl))
  have hR1 := hide hr1
  have hne : ((m : Int) == (m : Int) + 1) = false := beq_eq_false_iff_ne.2 (by omega)
  clear H hrow hfront hback hnews ha hr1 ho1 hg1 ho2 hg2 hm hq hlen hlen2
  go_enter Try.func36, Try.ntmps36
  go_upto_region 5 with fail
  go_region_held_law (fun _ => True) (trivial) ((refine step_append_run _ 26 rfl rfl _ _ 61 61 rfl _ _ rfl rfl _ _ 61 rfl hR1.out ?_))
  go_wp2
  go_ret
  exact ⟨_, rfl, ⟨_, _, _, rfl⟩, HH.out⟩
set_option maxRecDepth 100000 in
set_option maxHeartbeats 2000000 in
theorem btake_any {F : Nat → Prop} {w0 w : World} {R : Part} {g n cap i : Nat} {f : Nat → Value} {l : List Kv} (H : LawF F w0 w ((arP (.slice (some ⟨g, 0, none⟩) n cap) n f).and ((enP (f i) l).and R))) (hi : i < n) (hn : l.length ≤ 50000) (k : ByteArray) :
    Calls Try.prog 31 #[.pointer (some ⟨g, i, none⟩), .string k] w fun e w' => e = .returned (.bool (bhas k l)) ∧ ∃ u, LawF F w0 w' ((arP (.slice (some ⟨g, 0, none⟩) n cap) n (updF f i u)).and ((enP u (bdel k l)).and R)) := by
  obtain ⟨hc, -⟩ := ar_cell H.q.1 hi
  have hv : rowE w (f i) l := H.q.2.1.1
  rcases b_cases k l with ⟨pre, x, post, rfl, hpre⟩ | hno
  · have HF := hide (find_hit hv (by omega) hpre g i hc)
    rw [bhas_hit, bdel_hit hpre]
    have HH := hide H
    have hmn : pre.length < (pre ++ (k, x) :: post).length := by simp
    have hml : pre.length ≤ 50000 := by omega
    clear hv hpre H
    have hm0 : ¬ (pre.length : Int) < 0 := by omega
    have HD := hide (fun W (L : LawF F w0 W ((enP (f i) (pre ++ (k, x) :: post)).and ((arP (.slice (some ⟨g, 0, none⟩) n cap) n f).and R))) => sdel_any L)
    clear hn hmn
    generalize pre ++ (k, x) :: post = l at *
    generalize pre ++ post = l' at *
    generalize pre.length = m at *
    have e1 : wrap64 ((m : Int) + 1) = (m : Int) + 1 := by unfold wrap64; omega
    go_enter Try.func31, Try.ntmps31
    go_wp2_with (first
      | (go_at_call 35; refine HF.out.mono ?_; rintro e w1 ⟨rfl, hg1⟩; have hc1 := cell_grown0 hg1 hc; have H1 := hide (HH.out.step hg1))
      | (go_at_call 36; refine (HD.out _ H1.out.rot).mono ?_; rintro e w2 ⟨u, rfl, ⟨ua, ub, uc, rfl⟩, H2⟩; replace H2 := hide H2.rot; obtain ⟨d1, d2⟩ := ar_cell H2.out.q.1 hi))
    go_ret
    exact ⟨rfl, _, H2.out.bkSet (i := i) (.slice ua ub uc)⟩
  · have HF := hide (find_miss hv (by omega) hno g i hc)
    rw [bhas_miss hno, bdel_miss hno]
    have HH := hide H
    clear hv hno H
    go_enter Try.func31, Try.ntmps31
    go_wp2_with (go_at_call 35; refine HF.out.mono ?_; rintro e w1 ⟨rfl, hg1⟩)
    go_ret
    refine ⟨rfl, f i, ?_⟩
    rw [updF_self]
    exact HH.out.step hg1
end Go.Proofs.Ytncblaofgdcfmaa
