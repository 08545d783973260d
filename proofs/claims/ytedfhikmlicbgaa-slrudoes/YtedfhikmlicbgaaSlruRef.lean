/- What the document's own list answers. Conditions: at most 1000 keys. -/
import Derived.Test.YtedfhikmlicbgaaSlruAll
import Derived.Deep.QuietTactic
import Derived.Deep.CutBlock
import Derived.Deep.CutRange
namespace Go.Proofs.Ytedfhikmlicbgaa
open Go.RowKit Go.Shelf

theorem hasK_app (l m : List ByteArray) (k : ByteArray) : hasK (l ++ m) k = (hasK l k || hasK m k) := by simp [hasK]
theorem hasK_same (l : List ByteArray) (s : ByteArray) : hasK (l ++ [s]) s = true := by rw [hasK_app]; simp [hasK]
theorem hasK_other {l : List ByteArray} {x s : ByteArray} (h : x ≠ s) : hasK (l ++ [x]) s = hasK l s := by rw [hasK_app]; simp [hasK, h]
theorem without_other {l : List ByteArray} {x s : ByteArray} (h : x ≠ s) : without (l ++ [x]) s = without l s ++ [x] := by
  rw [without_app]
  simp [without, h]
theorem without_self {l : List ByteArray} {s : ByteArray} : without (l ++ [s]) s = without l s := by
  rw [without_app]
  simp [without]
theorem holds_on {w w' : World} {v : Value} {xs : List ByteArray} (h : HoldsS w v xs) (hs : ∀ k, v.ownBlock = some k → w'.heap[k]? = w.heap[k]?) : HoldsS w' v xs := by
  obtain ⟨a, cap, rfl, hc, hcn⟩ := h
  refine ⟨a, cap, rfl, fun i hi => ?_, hcn⟩
  obtain ⟨b, off, rfl, h1⟩ := hc i hi
  refine ⟨b, off, rfl, ?_⟩
  rw [World.cell?_of_block (w := w) (hs b rfl)]
  exact h1
/-- Texts that are read alone. -/
def readP (v : Value) (xs : List ByteArray) : Part := ⟨fun k => v.ownBlock = some k, fun w => HoldsS w v xs, fun _ _ h hs => holds_on h hs⟩
/-- The document's own list at block r. -/
def refP (n0 r : Nat) (st : Sr) (vt vs : Value) : Part := (boxP r (.cells #[.int .i64 st.most, vt, vs] 30)).and ((keysP n0 vt st.trial).and (readP vs st.safe))
theorem cells3 {w : World} {k : Nat} {t : TypeId} {x y z : Value} (h : w.heap[k]? = some (.cells #[x, y, z] t (0, 0))) : w.cell? ⟨k, 0, none⟩ = some x ∧ w.cell? ⟨k, 1, none⟩ = some y ∧ w.cell? ⟨k, 2, none⟩ = some z := by
  simp [World.cell?, h]
section
variable {w0 w w' : World} {r : Nat} {st : Sr} {vt vs : Value} {R : Part}
theorem Law.ref (H : Law w0 w ((refP w0.heap.size r st vt vs).and R)) : w.heap[r]? = some (.cells #[.int .i64 st.most, vt, vs] 30 (0, 0)) ∧ w.ownsRow w0.heap.size 9 1 vt st.trial.length (strV st.trial) ∧ HoldsS w vs st.safe := ⟨H.q.1.1, H.q.1.2.1.1, H.q.1.2.1.2.1⟩
theorem Law.open (H : Law w0 w ((refP w0.heap.size r st vt vs).and R)) : Law w0 w ((boxP r (.cells #[.int .i64 st.most, vt, vs] 30)).and ((keysP w0.heap.size vt st.trial).and ((readP vs st.safe).and R))) := H.assoc.inAssoc
theorem Law.shut (H : Law w0 w ((boxP r (.cells #[.int .i64 st.most, vt, vs] 30)).and ((keysP w0.heap.size vt st.trial).and ((readP vs st.safe).and R)))) : Law w0 w ((refP w0.heap.size r st vt vs).and R) := H.inUnassoc.unassoc
end
/-- A key is appended to those on trial. -/
theorem ref_app {w0 w w1 : World} {r : Nat} {st : Sr} {vt vs v' : Value} {R : Part} {s : ByteArray} {tmp : Obj} (H : Law w0 w ((refP w0.heap.size r st vt vs).and R)) (hown : w1.ownsRow w0.heap.size 9 1 v' (st.trial.length + 1) (strV st.trial ++ [.string s])) (hgrow : (w.alloc tmp).grownBy w1 vt.ownBlock) (hat : v'.ownBlock = vt.ownBlock ∨ v'.ownBlock = some (w.alloc tmp).heap.size) :
    w1.frozen? ⟨r, 1, none⟩ = false ∧ w1.cell? ⟨r, 1, none⟩ = some vt ∧ Law w0 (w1.setCell ⟨r, 1, none⟩ v') ((refP w0.heap.size r ⟨st.most, st.trial ++ [s], st.safe⟩ v' vs).and R) := by
  have H1 := (H.open.rot.app hown hgrow hat).rot
  refine ⟨frozen_of_row w1 r 1 _ _ H1.q.1, (cells3 H1.q.1).2.1, ?_⟩
  have H2 := H1.setAt 1 v'
  refine Law.shut ?_
  unfold keysP
  rw [List.length_append, strV_app]
  exact H2
/-- Both rows are new ones. -/
theorem ref_rem {w0 w : World} {r : Nat} {st : Sr} {vt vs v1 v2 : Value} {R : Part} {xs ys : List ByteArray} (H : Law w0 w ((keysP w0.heap.size v2 ys).and ((keysP w0.heap.size v1 xs).and ((refP w0.heap.size r st vt vs).and R)))) :
    w.cell? ⟨r, 1, none⟩ = some vt ∧ w.frozen? ⟨r, 1, none⟩ = false ∧ (w.setCell ⟨r, 1, none⟩ v1).cell? ⟨r, 2, none⟩ = some vs ∧ (w.setCell ⟨r, 1, none⟩ v1).frozen? ⟨r, 2, none⟩ = false ∧
    Law w0 ((w.setCell ⟨r, 1, none⟩ v1).setCell ⟨r, 2, none⟩ v2) ((boxP r (.cells #[.int .i64 st.most, v1, v2] 30)).and ((keysP w0.heap.size v1 xs).and ((keysP w0.heap.size v2 ys).and R))) := by
  have H1 := H.rin.rot.in1 (R' := (keysP w0.heap.size v2 ys).and ((keysP w0.heap.size v1 xs).and R)) (fun h => h) (fun k hk => hk)
  have H2 := H1.assoc.in1 (R' := (keysP w0.heap.size v2 ys).and ((keysP w0.heap.size v1 xs).and R)) (fun h => h.2.1) (fun k hk => .inr hk)
  have H3 := H2.setAt 1 v1
  have H4 := H3.setAt 2 v2
  exact ⟨(cells3 H2.q.1).2.1, frozen_of_row w r 1 _ _ H2.q.1, (cells3 H3.q.1).2.2, frozen_of_row _ r 2 _ _ H3.q.1, H4.rin⟩
/-- All of a list of texts is appended. -/
theorem run_append_keys (w : World) (base : Nat) (ty : TypeId) {v x : Value} {n : Nat} {xs : List Value} {ys : List ByteArray} (hown : w.ownsRow base 9 1 v n xs) (hx : HoldsS w x ys) (hn : n + ys.length ≤ 4000) (hb : base ≤ w.heap.size) :
    ∃ v' w', (Builtin.append_ #[28, 28] ty #[v, x]).run Try.prog w = .ok v' w' ∧ w'.ownsRow base 9 1 v' (n + ys.length) (xs ++ strV ys) ∧ w.grownBy w' v.ownBlock ∧ (v'.ownBlock = v.ownBlock ∨ v'.ownBlock = some w.heap.size) := by
  obtain ⟨i0, hi, hz0, hz1, hz2⟩ := info_parts info_str
  obtain ⟨a, cap, rfl, hc, hcn⟩ := hx
  cases a with
  | none =>
    obtain rfl := hcn rfl
    have hy : ys = [] := by
      rcases ys with _ | ⟨y, l⟩
      · rfl
      · obtain ⟨b, off, e, _⟩ := hc 0 (by simp)
        cases e
    subst hy
    refine ⟨v, w, run_append_owned_none w base 28 ty 9 i0 1 Try.underlying28 hi v n xs hown, ?_, gr_refl _ _, .inl rfl⟩
    simpa [strV] using hown
  | some ad =>
    have hnews : ∀ (j : Nat) (u : Value), (strV ys)[j]? = some u → w.cell? (ad.add j) = some u := by
      intro j u hu
      have hj : j < ys.length := by
        have := (List.getElem?_eq_some_iff.1 hu).1
        rwa [strV_len] at this
      obtain ⟨b, off, e, h1⟩ := hc j hj
      cases e
      have hadd : (⟨b, off, none⟩ : Addr).add j = ⟨b, off + j, none⟩ := by unfold Addr.add; split <;> simp_all
      rw [hadd, h1]
      rw [strV, List.getElem?_map, List.getElem?_eq_getElem hj] at hu
      rw [← hu]
      simp [List.getD, List.getElem?_eq_getElem hj]
    obtain ⟨v', w', h1, h2, h3, _, h5⟩ := run_append_own_at (P := Try.prog) w base 28 ty 9 i0 (.string ⟨#[]⟩) 1 16 Try.underlying28 hi hz0 hz1 hz2 rfl (by decide) v n xs hown ad ys.length cap (strV ys) (by rw [strV_len, Nat.mul_one]) hnews (fun u hu => by obtain ⟨y, _, rfl⟩ := List.mem_map.1 hu; rfl) (by unfold maxLen; omega) (by omega) hb
    exact ⟨v', w', h1, h2, h3, h5⟩
theorem wpList_append_keys {w : World} {ops : Array Oper} {rest : List Oper} {o : Oper} {a : Act} {Q : Exit → Act → World → Prop} (hgd : o.guard = none) (s x : Operand) (ho : o.op = .call { callee := .builtin .append, args := #[s, x], argTypes := #[28, 28] })
    (base : Nat) (v : Value) (n : Nat) (xs : List Value) (hs : a.eval s = v) (hown : w.ownsRow base 9 1 v n xs) (u : Value) (ys : List ByteArray) (hx : a.eval x = u) (hu : HoldsS w u ys) (hn : n + ys.length ≤ 4000) (hb : base ≤ w.heap.size)
    (h : ∀ v' w', w'.ownsRow base 9 1 v' (n + ys.length) (xs ++ strV ys) → w.grownBy w' v.ownBlock → (v'.ownBlock = v.ownBlock ∨ v'.ownBlock = some w.heap.size) → wpList Try.prog ops Q rest (a.put o.dst v') w') :
    wpList Try.prog ops Q (o :: rest) a w := by
  refine wpList_plain hgd fun K hK => ?_
  obtain ⟨v', w', hr, h2, h3, h5⟩ := run_append_keys w base o.type hown hu hn hb
  unfold Oper.wp execOp
  simp only [ho, resolve, invoke, builtin, Sem.run_bind, Sem.run_pure, Result.andThen_ok, List.map_toArray, List.map_cons, List.map_nil, hs, hx, hr]
  exact hK _ _ (h v' w' h2 h3 h5)
set_option maxHeartbeats 2000000 in
theorem without_is {w0 w : World} {R : Part} {v : Value} {xs : List ByteArray} (H : Law w0 w R) (hv : ∀ W, Law w0 W R → HoldsS W v xs) (hx : xs.length ≤ 1000) (s : ByteArray) (q : Bool) (hq : hasK xs s = q) :
    Calls Try.prog 30 #[v, .string s] w fun e w' => ∃ v', e = .returned (.tuple #[v', .bool q]) ∧ Law w0 w' ((keysP w0.heap.size v' (without xs s)).and R) := by
  subst hq
  obtain ⟨a, cap, rfl, -, -⟩ := hv w H
  obtain ⟨i0, hi, hz0, hz1, hz2⟩ := info_parts info_str
  obtain ⟨n, hn⟩ : ∃ n, xs.length = n := ⟨_, rfl⟩
  rw [hn] at hv hx ⊢
  go_enter Try.func30, Try.ntmps30
  go_wp2
  go_loopw [6, 7, 8] (fun u b i wr => ∃ k : Nat, k ≤ n ∧ i = .int .i64 k ∧ b = .bool (hasK (xs.take k) s) ∧ Law w0 wr ((keysP w0.heap.size u (without (xs.take k) s)).and R)) (fun _ _ i _ => n - (intOf i).toNat)
  case atStart => exact ⟨0, Nat.zero_le _, rfl, rfl, H.nil⟩
  case round =>
    clear H
    obtain ⟨k, hk, rfl, rfl, H⟩ := hrel
    obtain ⟨pv, cv, rfl⟩ := own_shape H.q.1
    by_cases hlt : k < n
    · obtain ⟨a', c', e', hc, -⟩ := hv wr H.right
      rw [hn] at e'
      cases e'
      obtain ⟨b1, o1, rfl, c1⟩ := hc k (by omega)
      have htk : xs.take (k + 1) = xs.take k ++ [xs[k]] := List.take_succ_eq_append_getElem (by omega)
      have hlw : (without (xs.take k) s).length ≤ 1000 := by
        have := without_le (xs.take k) s
        rw [List.length_take] at this
        omega
      have hki : (k : Int) < (n : Int) := by omega
      have hgd : xs.getD k ⟨#[]⟩ = xs[k] := by simp [List.getD, List.getElem?_eq_getElem (show k < xs.length by omega)]
      rw [hgd] at c1
      clear hgd
      by_cases he : xs[k] = s
      · rw [he] at c1 htk
        have HW : Hid (without (xs.take (k + 1)) s = without (xs.take k) s ∧ hasK (xs.take (k + 1)) s = true) := by
          show _ ∧ _
          rw [htk, without_self, hasK_same]
          exact ⟨rfl, rfl⟩
        clear htk hc
        go_wp2
        go_roundw
        case rel => exact ⟨k + 1, by omega, by go_num, by rw [HW.out.2], by rw [HW.out.1]; exact H⟩
        case measure => simp [intOf]; omega
      · have hne := str_ne he
        have HW : Hid (without (xs.take (k + 1)) s = without (xs.take k) s ++ [xs[k]] ∧ hasK (xs.take (k + 1)) s = hasK (xs.take k) s) := by
          show _ ∧ _
          rw [htk, without_other he, hasK_other he]
          exact ⟨rfl, rfl⟩
        clear htk he hc
        generalize xs[k] = x at *
        have hrow : wr.ownsRow w0.heap.size 9 1 _ _ _ := H.q.1
        have hB := H.below.size
        go_wp2_with (at_builtin; refine wpList_append_own_at _ rfl _ _ 28 rfl w0.heap.size 9 i0 (.string ⟨#[]⟩) 1 16 Try.underlying28 hi hz0 hz1 hz2 rfl (by decide) _ _ _ rfl (hrow.alloc _) ⟨_, 0, none⟩ 1 1 [.string x] rfl rfl (cell_one_new _ _ _) (by simp [Value.oneCell']) (by unfold maxLen; omega) (by omega) (by simp; omega) ?_; intro v' w8 hown' hgrow _ hat; have H8 := H.app hown' hgrow hat)
        go_roundw
        case rel => exact ⟨k + 1, by omega, by go_num, by rw [HW.out.2], by rw [HW.out.1]; unfold keysP; rw [List.length_append, strV_app]; exact H8⟩
        case measure => simp [intOf]; omega
    · obtain rfl : k = n := by omega
      have ht : xs.take k = xs := by rw [← hn, List.take_length]
      rw [ht] at H ⊢
      go_wp2
      go_ret2
      exact ⟨_, rfl, H⟩
section
variable {w0 w : World} {r : Nat} {st : Sr} {vt vs : Value} {R : Part}
set_option maxHeartbeats 2000000 in
theorem rhas_is (H : Law w0 w ((refP w0.heap.size r st vt vs).and R)) (hn : (allR st).length ≤ 1000) (s : ByteArray) (q : Bool) (hq : hasK (allR st) s = q) :
    Calls Try.prog 27 #[.pointer (some ⟨r, 0, none⟩), .string s] w fun e w' => e = .returned (.bool q) ∧ Law w0 w' ((refP w0.heap.size r st vt vs).and R) := by
  have hl : st.trial.length + st.safe.length ≤ 1000 := by rw [← List.length_append]; exact hn
  have hq2 : (hasK st.trial s || hasK st.safe s) = q := by rw [← hq]; exact (hasK_app _ _ _).symm
  obtain ⟨-, c1, c2⟩ := cells3 H.ref.1
  obtain ⟨q1, h1⟩ : ∃ q, hasK st.trial s = q := ⟨_, rfl⟩
  obtain ⟨q2, h2⟩ : ∃ q, hasK st.safe s = q := ⟨_, rfl⟩
  rw [h1, h2] at hq2
  have K1 := hide h1
  have K2 := hide h2
  have HQ := hide hq2
  clear h1 h2 hq2 hq
  cases q1 with
  | true =>
    go_enter Try.func27, Try.ntmps27
    go_wp2_with (first
      | (go_at_call 30; have t := K1; clear t; refine (without_is H (fun W HW => holds_own HW.ref.2.1) (by omega) s _ K1.out).mono ?_; clear K1 H c1 c2; rintro e w1 ⟨v1, rfl, H1⟩; have H := H1.right; clear H1; obtain ⟨-, c1, c2⟩ := cells3 H.ref.1)
      | (go_at_call 30; refine (without_is H (fun W HW => HW.ref.2.2) (by omega) s _ K2.out).mono ?_; clear H c1 c2; rintro e w2 ⟨v2, rfl, H1⟩; have H := H1.right; clear H1))
    go_ret
    exact ⟨by rw [← HQ.out]; rfl, H⟩
  | false =>
    go_enter Try.func27, Try.ntmps27
    go_wp2_with (first
      | (go_at_call 30; have t := K1; clear t; refine (without_is H (fun W HW => holds_own HW.ref.2.1) (by omega) s _ K1.out).mono ?_; clear K1 H c1 c2; rintro e w1 ⟨v1, rfl, H1⟩; have H := H1.right; clear H1; obtain ⟨-, c1, c2⟩ := cells3 H.ref.1)
      | (go_at_call 30; refine (without_is H (fun W HW => HW.ref.2.2) (by omega) s _ K2.out).mono ?_; clear H c1 c2; rintro e w2 ⟨v2, rfl, H1⟩; have H := H1.right; clear H1))
    go_ret
    exact ⟨by rw [← HQ.out]; rfl, H⟩
set_option maxHeartbeats 2000000 in
theorem radd_is (H : Law w0 w ((refP w0.heap.size r st vt vs).and R)) (hn : (allR st).length ≤ 900) (s : ByteArray) (e : Int) (t : Sr) (he : addErr st s = e) (ht : addR st s = t) :
    Calls Try.prog 13 #[.pointer (some ⟨r, 0, none⟩), .string s] w fun en w' => en = .returned (.int .i64 e) ∧ ∃ vt' vs', Law w0 w' ((refP w0.heap.size r t vt' vs').and R) := by
  subst he ht
  have hl : st.trial.length + st.safe.length ≤ 900 := by rw [← List.length_append]; exact hn
  obtain ⟨i0, hi, hz0, hz1, hz2⟩ := info_parts info_str
  by_cases hm : s ∈ allR st
  · rw [(add_in hm).1, (add_in hm).2]
    have HH := hide (hasK_iff.2 hm)
    go_enter Try.func13, Try.ntmps13
    go_wp2_with (go_at_call 27; refine (rhas_is H (by omega) s _ HH.out).mono ?_; clear H; rintro e w1 ⟨rfl, H⟩)
    go_ret
    exact ⟨rfl, _, _, H⟩
  · rw [(add_out hm).1, (add_out hm).2]
    have HH := hide (hasK_not.2 hm)
    go_enter Try.func13, Try.ntmps13
    go_wp2_with (first
      | (go_at_call 27; refine (rhas_is H (by omega) s _ HH.out).mono ?_; clear H; rintro e w1 ⟨rfl, H⟩; obtain ⟨-, c1, -⟩ := cells3 H.ref.1; have hrow := H.ref.2.1; have hB := H.below.size)
      | (at_builtin; refine wpList_append_own_at _ rfl _ _ 28 rfl w0.heap.size 9 i0 (.string ⟨#[]⟩) 1 16 Try.underlying28 hi hz0 hz1 hz2 rfl (by decide) _ _ _ rfl (hrow.alloc _) ⟨_, 0, none⟩ 1 1 [.string s] rfl rfl (cell_one_new _ _ _) (by simp [Value.oneCell']) (by unfold maxLen; omega) (by omega) (by simp; omega) ?_; intro v' w2 hown' hgrow _ hat; obtain ⟨g', cap', rfl⟩ := ownsRow_succ hown'; obtain ⟨hf, hc, H2⟩ := ref_app H hown' hgrow hat))
    go_ret
    exact ⟨rfl, _, _, H2⟩
set_option maxHeartbeats 2000000 in
theorem rrem_is (H : Law w0 w ((refP w0.heap.size r st vt vs).and R)) (hn : (allR st).length ≤ 1000) (s : ByteArray) (hm : s ∈ allR st) :
    Calls Try.prog 17 #[.pointer (some ⟨r, 0, none⟩), .string s] w fun en w' => en = .returned (.int .i64 0) ∧ ∃ vt' vs', Law w0 w' ((boxP r (.cells #[.int .i64 st.most, vt', vs'] 30)).and ((keysP w0.heap.size vt' (without st.trial s)).and ((keysP w0.heap.size vs' (without st.safe s)).and R))) := by
  have hl : st.trial.length + st.safe.length ≤ 1000 := by rw [← List.length_append]; exact hn
  have hq2 : (hasK st.trial s || hasK st.safe s) = true := by rw [← hasK_app]; exact hasK_iff.2 hm
  obtain ⟨-, c1, c2⟩ := cells3 H.ref.1
  obtain ⟨q1, h1⟩ : ∃ q, hasK st.trial s = q := ⟨_, rfl⟩
  obtain ⟨q2, h2⟩ : ∃ q, hasK st.safe s = q := ⟨_, rfl⟩
  rw [h1, h2] at hq2
  have K1 := hide h1
  have K2 := hide h2
  clear h1 h2
  cases q1 with
  | true =>
    clear hq2
    go_enter Try.func17, Try.ntmps17
    go_wp2_with (first
      | (go_at_call 30; have t := K1; clear t; refine (without_is H (fun W HW => holds_own HW.ref.2.1) (by omega) s _ K1.out).mono ?_; clear K1 H c1 c2; rintro e w1 ⟨v1, rfl, H⟩; obtain ⟨p1, k1, rfl⟩ := own_shape H.q.1; obtain ⟨-, c1, c2⟩ := cells3 H.right.ref.1)
      | (go_at_call 30; refine (without_is H (fun W HW => HW.right.ref.2.2) (by omega) s _ K2.out).mono ?_; clear H c1 c2; rintro e w2 ⟨v2, rfl, H⟩; obtain ⟨p2, k2, rfl⟩ := own_shape H.q.1; obtain ⟨c1, f1, c2, f2, H1⟩ := ref_rem H))
    go_ret
    exact ⟨rfl, _, _, H1⟩
  | false =>
    obtain rfl : q2 = true := hq2
    go_enter Try.func17, Try.ntmps17
    go_wp2_with (first
      | (go_at_call 30; have t := K1; clear t; refine (without_is H (fun W HW => holds_own HW.ref.2.1) (by omega) s _ K1.out).mono ?_; clear K1 H c1 c2; rintro e w1 ⟨v1, rfl, H⟩; obtain ⟨p1, k1, rfl⟩ := own_shape H.q.1; obtain ⟨-, c1, c2⟩ := cells3 H.right.ref.1)
      | (go_at_call 30; refine (without_is H (fun W HW => HW.right.ref.2.2) (by omega) s _ K2.out).mono ?_; clear H c1 c2; rintro e w2 ⟨v2, rfl, H⟩; obtain ⟨p2, k2, rfl⟩ := own_shape H.q.1; obtain ⟨c1, f1, c2, f2, H1⟩ := ref_rem H))
    go_ret
    exact ⟨rfl, _, _, H1⟩
set_option maxHeartbeats 2000000 in
theorem rremNot_is (H : Law w0 w ((refP w0.heap.size r st vt vs).and R)) (hn : (allR st).length ≤ 1000) (s : ByteArray) (hm : ¬ s ∈ allR st) :
    Calls Try.prog 17 #[.pointer (some ⟨r, 0, none⟩), .string s] w fun en w' => en = .returned (.int .i64 6) ∧ Law w0 w' ((refP w0.heap.size r st vt vs).and R) := by
  have hl : st.trial.length + st.safe.length ≤ 1000 := by rw [← List.length_append]; exact hn
  have K1 := hide (hasK_not.2 fun h => hm (List.mem_append_left _ h))
  have K2 := hide (hasK_not.2 fun h => hm (List.mem_append_right _ h))
  obtain ⟨-, c1, c2⟩ := cells3 H.ref.1
  clear hm
  go_enter Try.func17, Try.ntmps17
  go_wp2_with (first
    | (go_at_call 30; have t := K1; clear t; refine (without_is H (fun W HW => holds_own HW.ref.2.1) (by omega) s _ K1.out).mono ?_; clear K1 H c1 c2; rintro e w1 ⟨v1, rfl, H1⟩; have H := H1.right; clear H1; obtain ⟨-, c1, c2⟩ := cells3 H.ref.1)
    | (go_at_call 30; refine (without_is H (fun W HW => HW.ref.2.2) (by omega) s _ K2.out).mono ?_; clear H c1 c2; rintro e w2 ⟨v2, rfl, H1⟩; have H := H1.right; clear H1))
  go_ret
  exact ⟨rfl, H⟩
end
end Go.Proofs.Ytedfhikmlicbgaa
