/- What the document's own table answers: where a text stands, a step, and rows that are cut and joined. Conditions: at most 5000 pairs. -/
import Derived.Test.YtncblaofgdcfmaaTableAll
import Derived.Test.YtncblaofgdcfmaaTableRefM
import Derived.Deep.QuietTactic
import Derived.Deep.CutBlock
import Derived.Deep.CutRange
namespace Go.Proofs.Ytncblaofgdcfmaa
open Go.RowKit Go.Shelf

/-- The document's own table at block r. -/
def refP (n0 r : Nat) (st : Ts) (v : Value) : Part := (boxP r (.cells #[v, .int .i64 (st.buckets : Nat), .int .i64 (st.left : Nat)] 39)).and (pairsP n0 v st.l)
theorem cells3 {w : World} {k : Nat} {t : TypeId} {x y z : Value} (h : w.heap[k]? = some (.cells #[x, y, z] t (0, 0))) : w.cell? ⟨k, 0, none⟩ = some x ∧ w.cell? ⟨k, 1, none⟩ = some y ∧ w.cell? ⟨k, 2, none⟩ = some z := by
  simp [World.cell?, h]
/-- Its first ones, and those behind: of any slice that holds pairs. -/
theorem slice_front {w0 : World} {n0 : Nat} {v : Value} {l : List Kv} (h : w0.ownsRow n0 45 2 v l.length (kvV l)) (k : Nat) (hk : k ≤ l.length) :
    ∃ u, (∀ w : World, (Instr.sliceAt 37 v none (some (.int .i64 k)) none).run Try.prog w = .ok u w) ∧ ∀ w : World, HoldsP w v l → HoldsP w u (l.take k) := by
  obtain ⟨a, cap, rfl⟩ := own_shape h
  obtain ⟨h1, h2⟩ := own_cap h
  have hkc : k ≤ cap := Nat.le_trans hk h1
  have hki : (k : Int) ≤ (cap : Int) := by omega
  refine ⟨.slice a k cap, fun w => ?_, fun w hw => pairs_take hw k hk⟩
  go_simp
theorem slice_back {w0 : World} {n0 : Nat} {v : Value} {l : List Kv} (h : w0.ownsRow n0 45 2 v l.length (kvV l)) (k : Nat) (hk : k ≤ l.length) :
    ∃ u, (∀ w : World, (Instr.sliceAt 37 v (some (.int .i64 k)) none none).run Try.prog w = .ok u w) ∧ ∀ w : World, HoldsP w v l → HoldsP w u (l.drop k) := by
  rcases h.2 with ⟨rfl, h0⟩ | ⟨g, cap, cur, rfl, hg, hh, h1, h2, r⟩
  · have hl : l = [] := List.length_eq_zero_iff.1 h0
    subst hl
    obtain rfl : k = 0 := by simpa using hk
    refine ⟨.slice none 0 0, fun w => ?_, fun w hw => hw⟩
    go_simp
  · have hki : (k : Int) ≤ (l.length : Int) := by omega
    refine ⟨.slice (if cap = k then some ⟨g, 0, none⟩ else some ⟨g, k * 2, none⟩) (l.length - k) (cap - k), fun w => ?_, fun w hw => ?_⟩
    · by_cases e : cap = k
      · subst e
        go_simp
      · go_simp
    · obtain ⟨a0, cap0, e, hc, hcn⟩ := hw
      cases e
      refine ⟨_, cap - k, by rw [List.length_drop], fun i p hi => ?_, fun e => ?_⟩
      · rw [List.getElem?_drop] at hi
        obtain ⟨b, off, e1, h3, h4⟩ := hc _ p hi
        cases e1
        have hlt := (List.getElem?_eq_some_iff.1 hi).1
        rw [if_neg (by omega)]
        have e3 : k * 2 + i * 2 = 0 + (k + i) * 2 := by omega
        exact ⟨g, k * 2, rfl, by rw [e3]; exact h3, by rw [e3]; exact h4⟩
      · split at e <;> cases e
/-- All of a row of pairs is appended. -/
theorem kvV_one (l : List Kv) : ∀ u ∈ kvV l, u.oneCell' = true := by
  intro u hu
  unfold kvV at hu
  rw [List.mem_flatMap] at hu
  obtain ⟨p, _, hu⟩ := hu
  simp at hu
  rcases hu with rfl | rfl <;> rfl
theorem kvV_get {l : List Kv} {j : Nat} {u : Value} (h : (kvV l)[j]? = some u) : ∃ i p, l[i]? = some p ∧ ((j = i * 2 ∧ u = .string p.1) ∨ (j = i * 2 + 1 ∧ u = .int .i64 p.2)) := by
  have hj := (List.getElem?_eq_some_iff.1 h).1
  rw [kvV_len] at hj
  have hi : j / 2 < l.length := by omega
  have hp : l[j / 2]? = some l[j / 2] := List.getElem?_eq_getElem hi
  obtain ⟨k1, k2⟩ := kvV_at hp
  refine ⟨j / 2, _, hp, ?_⟩
  rcases Nat.mod_two_eq_zero_or_one j with e | e
  · have ej : j = j / 2 * 2 := by omega
    rw [← ej, h] at k1
    exact .inl ⟨ej, Option.some.inj k1⟩
  · have ej : j = j / 2 * 2 + 1 := by omega
    rw [← ej, h] at k2
    exact .inr ⟨ej, Option.some.inj k2⟩
theorem run_append_pairs (w : World) (base : Nat) (ty : TypeId) {v x : Value} {n : Nat} {xs : List Value} {ys : List Kv} (hown : w.ownsRow base 45 2 v n xs) (hx : HoldsP w x ys) (hn : n + ys.length ≤ 20000) (hb : base ≤ w.heap.size) :
    ∃ v' w', (Builtin.append_ #[37, 37] ty #[v, x]).run Try.prog w = .ok v' w' ∧ w'.ownsRow base 45 2 v' (n + ys.length) (xs ++ kvV ys) ∧ w.grownBy w' v.ownBlock ∧ (v'.ownBlock = v.ownBlock ∨ v'.ownBlock = some w.heap.size) := by
  obtain ⟨i0, hi, hz0, hz1, hz2⟩ := info_parts info_pair
  obtain ⟨a, cap, rfl, hc, hcn⟩ := hx
  cases a with
  | none =>
    obtain rfl := hcn rfl
    have hy : ys = [] := by
      rcases ys with _ | ⟨y, l⟩
      · rfl
      · obtain ⟨b, off, e, _⟩ := hc 0 y rfl
        cases e
    subst hy
    refine ⟨v, w, run_append_owned_none w base 37 ty 45 i0 2 Try.underlying37 hi v n xs hown, ?_, gr_refl _ _, .inl rfl⟩
    simpa [kvV] using hown
  | some ad =>
    have hnews : ∀ (j : Nat) (u : Value), (kvV ys)[j]? = some u → w.cell? (ad.add j) = some u := by
      intro j u hu
      obtain ⟨i, p, hp, hh⟩ := kvV_get hu
      obtain ⟨b, off, e, h1, h2⟩ := hc i p hp
      cases e
      have hadd : (⟨b, off, none⟩ : Addr).add j = ⟨b, off + j, none⟩ := by unfold Addr.add; split <;> simp_all
      rw [hadd]
      rcases hh with ⟨rfl, rfl⟩ | ⟨rfl, rfl⟩
      · exact h1
      · rw [← Nat.add_assoc]
        exact h2
    obtain ⟨v', w', h1, h2, h3, _, h5⟩ := run_append_own_at (P := Try.prog) w base 37 ty 45 i0 (.agg #[.string ⟨#[]⟩, .int .i64 0]) 2 24 Try.underlying37 hi hz0 hz1 hz2 rfl (by decide) v n xs hown ad ys.length cap (kvV ys) (kvV_len ys) hnews (kvV_one ys) (by unfold maxLen; omega) (by omega) hb
    exact ⟨v', w', h1, h2, h3, h5⟩
theorem wpList_append_pairs {w : World} {ops : Array Oper} {rest : List Oper} {o : Oper} {a : Act} {Q : Exit → Act → World → Prop} (hgd : o.guard = none) (s x : Operand) (ho : o.op = .call { callee := .builtin .append, args := #[s, x], argTypes := #[37, 37] })
    (base : Nat) (v : Value) (n : Nat) (xs : List Value) (hs : a.eval s = v) (hown : w.ownsRow base 45 2 v n xs) (u : Value) (ys : List Kv) (hx : a.eval x = u) (hu : HoldsP w u ys) (hn : n + ys.length ≤ 20000) (hb : base ≤ w.heap.size)
    (h : ∀ v' w', w'.ownsRow base 45 2 v' (n + ys.length) (xs ++ kvV ys) → w.grownBy w' v.ownBlock → (v'.ownBlock = v.ownBlock ∨ v'.ownBlock = some w.heap.size) → wpList Try.prog ops Q rest (a.put o.dst v') w') :
    wpList Try.prog ops Q (o :: rest) a w := by
  refine wpList_plain hgd fun K hK => ?_
  obtain ⟨v', w', hr, h2, h3, h5⟩ := run_append_pairs w base o.type hown hu hn hb
  unfold Oper.wp execOp
  simp only [ho, resolve, invoke, builtin, Sem.run_bind, Sem.run_pure, Result.andThen_ok, List.map_toArray, List.map_cons, List.map_nil, hs, hx, hr]
  exact hK _ _ (h v' w' h2 h3 h5)
section
variable {w0 w w' : World} {r : Nat} {st : Ts} {v : Value} {R : Part}
theorem Law.ref (H : Law w0 w ((refP w0.heap.size r st v).and R)) : w.heap[r]? = some (.cells #[v, .int .i64 (st.buckets : Nat), .int .i64 (st.left : Nat)] 39 (0, 0)) ∧ w.ownsRow w0.heap.size 45 2 v st.l.length (kvV st.l) := ⟨H.q.1.1, H.q.1.2.1⟩
theorem Law.open (H : Law w0 w ((refP w0.heap.size r st v).and R)) : Law w0 w ((boxP r (.cells #[v, .int .i64 (st.buckets : Nat), .int .i64 (st.left : Nat)] 39)).and ((pairsP w0.heap.size v st.l).and R)) := H.assoc
theorem Law.shut (H : Law w0 w ((boxP r (.cells #[v, .int .i64 (st.buckets : Nat), .int .i64 (st.left : Nat)] 39)).and ((pairsP w0.heap.size v st.l).and R))) : Law w0 w ((refP w0.heap.size r st v).and R) := H.unassoc
end
set_option maxHeartbeats 1000000 in
theorem rnew_is {w0 w : World} {R : Part} (H : Law w0 w R) : Calls Try.prog 11 #[] w fun e w' => ∃ r v, e = .returned (.pointer (some ⟨r, 0, none⟩)) ∧ Law w0 w' ((refP w0.heap.size r freshT v).and R) := by
  have H1 := (H.nil (n0 := w0.heap.size) (e := 45) (size := 2)).box (.cells #[.slice none 0 0, .int .i64 8, .int .i64 0] 39)
  go_enter Try.func11, Try.ntmps11
  go_wp2
  go_ret
  exact ⟨_, _, rfl, Law.shut (st := freshT) H1⟩
set_option maxHeartbeats 1000000 in
theorem rstep_is {w0 w : World} {r : Nat} {st : Ts} {v : Value} {R : Part} (H : Law w0 w ((refP w0.heap.size r st v).and R)) (hn : SmallT st 5000) (hg : GoodT st) : Calls Try.prog 28 #[.pointer (some ⟨r, 0, none⟩)] w fun e w' => e = .returned (.tuple #[]) ∧ Law w0 w' ((refP w0.heap.size r (stepT st) v).and R) := by
  obtain ⟨-, -, c2⟩ := cells3 H.ref.1
  have hb := hn.buckets
  have hr := hg.room
  by_cases h0 : st.left = 0
  · have e : stepT st = st := by unfold stepT; rw [h0]; cases st; simp at h0; rw [h0]
    have HE := hide e
    rw [h0] at c2
    go_enter Try.func28, Try.ntmps28
    go_wp2
    go_end0
    exact ⟨rfl, by rw [HE.out]; exact H⟩
  · obtain ⟨m, hm⟩ : ∃ m, st.left = m + 1 := ⟨st.left - 1, by omega⟩
    rw [hm] at c2
    have hf := frozen_of_row w r 2 _ _ H.ref.1
    have hm5 : m ≤ 30000 := by omega
    have H1 := H.open.setAt 2 (.int .i64 (m : Nat))
    have HL : Hid (stepT st = ⟨st.l, st.buckets, m⟩) := by show _ = _; unfold stepT; rw [hm]; rfl
    have hpos : (0 : Int) < ((m + 1 : Nat) : Int) := by omega
    have e1 : wrap64 (m : Int) = m := by unfold wrap64; omega
    clear h0 hm
    go_enter Try.func28, Try.ntmps28
    go_wp2
    go_end0
    refine ⟨rfl, ?_⟩
    rw [HL.out]
    exact Law.shut (st := ⟨st.l, st.buckets, m⟩) H1
end Go.Proofs.Ytncblaofgdcfmaa
