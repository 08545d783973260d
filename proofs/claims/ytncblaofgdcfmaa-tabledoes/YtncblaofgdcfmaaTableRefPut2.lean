/- Put of the document's own table. Conditions: at most 5000 pairs. -/
import Derived.Test.YtncblaofgdcfmaaTableRefPut
namespace Go.Proofs.Ytncblaofgdcfmaa
open Go.RowKit Go.Shelf

theorem kvV_set (A B : List Kv) (s : ByteArray) (x y : Int) : (kvV (A ++ (s, x) :: B)).set (A.length * 2 + 1) (.int .i64 y) = kvV (A ++ (s, y) :: B) := by
  rw [kvV_cat, kvV_cat, List.set_append_right _ _ (by rw [kvV_len]; omega), kvV_len]
  have e : A.length * 2 + 1 - A.length * 2 = 1 := by omega
  rw [e]
  rfl
/-- One pair gets another number. -/
theorem ref_set {w0 w : World} {r g n cap : Nat} {st : Ts} {R : Part} (H : Law w0 w ((refP w0.heap.size r st (.slice (some ⟨g, 0, none⟩) n cap)).and R)) (hn : st.l.length = n) {A B : List Kv} {s : ByteArray} {x : Int} (hl : st.l = A ++ (s, x) :: B) (y : Int) (l2 : List Kv) (hl2 : A ++ (s, y) :: B = l2) :
    w.frozen? ⟨g, A.length * 2 + 1, none⟩ = false ∧ Law w0 (w.setCell ⟨g, A.length * 2 + 1, none⟩ (.int .i64 y)) ((refP w0.heap.size r ⟨l2, st.buckets, st.left⟩ (.slice (some ⟨g, 0, none⟩) n cap)).and R) := by
  subst hl2
  have hrow := H.ref.2
  rw [hn] at hrow
  obtain ⟨k1, k2⟩ := hrow.stored (A.length * 2 + 1) (.int .i64 y)
  refine ⟨hrow.frozenAt _, Law.shut (st := ⟨A ++ (s, y) :: B, st.buckets, st.left⟩) ?_⟩
  have H1 := H.open.rot
  rw [hl, kvV_set] at k1
  have hlen : (A ++ (s, y) :: B).length = n := by rw [← hn, hl]; simp
  refine (H1.turn (A' := pairsP w0.heap.size (.slice (some ⟨g, 0, none⟩) n cap) (A ++ (s, y) :: B)) ?_ ?_ ?_ fun j hj => .inl hj).rot
  · show World.ownsRow _ _ _ _ _ _ _
    rw [hlen]
    exact k1
  · intro j hj
    have := (own_at k1 hj).2.1
    exact this
  · exact ⟨k2.1, k2.2, k2.3, k2.4, fun j hj hnj => k2.5 j hj (fun e => hnj (by cases e; rfl))⟩
/-- The two stores of a table that grows. -/
theorem ref_grow {w0 w : World} {r : Nat} {st : Ts} {v : Value} {R : Part} (H : Law w0 w ((refP w0.heap.size r st v).and R)) (b2 : Nat) :
    w.cell? ⟨r, 2, none⟩ = some (.int .i64 (st.left : Nat)) ∧ w.frozen? ⟨r, 2, none⟩ = false ∧ (w.setCell ⟨r, 2, none⟩ (.int .i64 (st.buckets : Nat))).cell? ⟨r, 1, none⟩ = some (.int .i64 (st.buckets : Nat)) ∧ (w.setCell ⟨r, 2, none⟩ (.int .i64 (st.buckets : Nat))).frozen? ⟨r, 1, none⟩ = false ∧
    Law w0 ((w.setCell ⟨r, 2, none⟩ (.int .i64 (st.buckets : Nat))).setCell ⟨r, 1, none⟩ (.int .i64 (b2 : Nat))) ((refP w0.heap.size r ⟨st.l, b2, st.buckets⟩ v).and R) := by
  have H1 := H.open.setAt 2 (.int .i64 (st.buckets : Nat))
  have H2 := H1.setAt 1 (.int .i64 (b2 : Nat))
  exact ⟨(cells3 H.ref.1).2.2, frozen_of_row w r 2 _ _ H.ref.1, (cells3 H1.q.1).2.1, frozen_of_row _ r 1 _ _ H1.q.1, Law.shut (st := ⟨st.l, b2, st.buckets⟩) H2⟩
/-- What becomes of a table behind a Put, by cases. -/
structure Grows (st2 t : Ts) (b2 : Nat) (c1 c2 : Bool) : Prop where
  twice : 2 * (st2.buckets : Int) = (b2 : Int)
  wrap : wrap64 (b2 : Int) = (b2 : Int)
  more : decide ((b2 : Int) < (st2.l.length : Int)) = c1
  none : ((st2.left : Int) == 0) = c2
  yes : (c1 && c2) = true → t = ⟨st2.l, b2, st2.buckets⟩
  no : (c1 && c2) = false → t = st2
theorem grows_ex (st2 : Ts) (h : st2.buckets ≤ 100000) : ∃ b2 c1 c2, Grows st2 (growT st2) b2 c1 c2 := by
  refine ⟨2 * st2.buckets, _, _, by omega, ?_, rfl, rfl, fun hc => ?_, fun hc => ?_⟩
  · unfold wrap64
    omega
  · rw [Bool.and_eq_true, decide_eq_true_eq, beq_iff_eq] at hc
    unfold growT
    rw [if_pos ⟨by omega, by omega⟩]
  · unfold growT
    rw [if_neg]
    rintro ⟨h1, h2⟩
    have : (decide (((2 * st2.buckets : Nat) : Int) < (st2.l.length : Int)) && ((st2.left : Int) == 0)) = true := by
      rw [Bool.and_eq_true, decide_eq_true_eq, beq_iff_eq]
      exact ⟨by omega, by omega⟩
    rw [this] at hc
    cases hc
set_option maxRecDepth 100000 in
set_option maxHeartbeats 4000000 in
theorem rput_in {w0 w : World} {r : Nat} {st : Ts} {v : Value} {R : Part} (H : Law w0 w ((refP w0.heap.size r st v).and R)) (hn : SmallT st 5000) (hg : GoodT st) (s : ByteArray) (y : Int) (A B : List Kv) (x : Int) (hA : AtK st.l s A ((s, x) :: B)) :
    Calls Try.prog 13 #[.pointer (some ⟨r, 0, none⟩), .string s, .int .i64 y] w fun e w' => e = .returned (.tuple #[]) ∧ ∃ v', Law w0 w' ((refP w0.heap.size r (putT st s y) v').and R) := by
  obtain ⟨l2, hl2⟩ : ∃ l, A ++ (s, y) :: B = l := ⟨_, rfl⟩
  have hput : putT st s y = growT ⟨l2, st.buckets, st.left - 1⟩ := by unfold putT; rw [at_put_in hA, hl2]
  obtain ⟨b2, q1, q2, G⟩ := grows_ex ⟨l2, st.buckets, st.left - 1⟩ (by have := hn.buckets; show st.buckets ≤ 100000; omega)
  rw [← hput] at G
  have hA' : AtK (stepT st).l s A ((s, x) :: B) := hA
  obtain ⟨lf, hlf⟩ : ∃ lf, st.left - 1 = lf := ⟨_, rfl⟩
  obtain ⟨bk, hbk⟩ : ∃ bk, st.buckets = bk := ⟨_, rfl⟩
  have hS : stepT st = ⟨st.l, bk, lf⟩ := by unfold stepT; rw [hlf, hbk]
  have HS := hide hS
  have hn' := smallT_step hn
  rw [hS] at hn' hA'
  clear hS
  obtain ⟨pa, cap, rfl⟩ := own_shape H.ref.2
  obtain ⟨n, hln⟩ : ∃ n, st.l.length = n := ⟨_, rfl⟩
  have hln2 : l2.length = n := by rw [← hl2, ← hln, hA.eq]; simp
  rw [hln] at H
  have hmn : A.length < n := by rw [← hln, hA.eq]; simp
  have HP := hide (at_here hA).1
  have HA := hide hA'
  have HE : Hid (st.l = A ++ (s, x) :: B) := hA.eq
  have HL := hide hl2
  have HN : Hid (st.l.length = n) := hln
  obtain ⟨m, hlm⟩ : ∃ m, A.length = m := ⟨_, rfl⟩
  rw [hlm] at hmn
  have hmi : (m : Int) < (n : Int) := by omega
  have HM := hide hlm
  rw [hlf, hbk] at G
  have t1 : 2 * (bk : Int) = (b2 : Int) := G.twice
  have t2 := G.wrap
  have t3 : decide ((b2 : Int) < (l2.length : Int)) = q1 := G.more
  have t4 : ((lf : Int) == 0) = q2 := G.none
  rw [hln2] at t3
  have HY : Hid ((q1 && q2) = true → putT st s y = ⟨l2, b2, bk⟩) := G.yes
  have HO : Hid ((q1 && q2) = false → putT st s y = ⟨l2, bk, lf⟩) := G.no
  clear hA hA' hl2 hput G hln hlm hln2 hlf hbk
  cases q1 with
  | false =>
    have t5 : decide (b2 < n) = false := decide_eq_false fun h => by have := of_decide_eq_false t3; omega
    go_enter Try.func13, Try.ntmps13
    go_wp2_with (first
      | (go_at_call 28; refine (rstep_is H hn hg).mono ?_; clear H; rintro e w1 ⟨rfl, H⟩; rw [HS.out] at H)
      | (go_at_call 29; refine (rat_in H hn' HA.out HM.out).mono ?_; clear H; rintro e w2 ⟨rfl, H⟩; obtain ⟨c0, -, -⟩ := cells3 H.ref.1; obtain ⟨g, rfl, c1, c2⟩ := pair_at (l := st.l) H.ref.2 HN.out HP.out; rw [HM.out] at c1 c2; obtain ⟨f1, H3⟩ := ref_set (st := ⟨st.l, bk, lf⟩) H HN.out HE.out y _ HL.out; rw [HM.out] at f1 H3; clear H; obtain ⟨d0, d1, d2⟩ := cells3 H3.ref.1))
    clear c0 c1 c2 f1 hmi hmn HM HN HL HE HA HP
    go_quiet (fail)
    clear d0 d1 d2 t1 t2 t3 t4 t5
    go_wp2
    go_end0
    exact ⟨rfl, _, by rw [HO.out (by simp)]; exact H3.drewN _⟩
  | true =>
    have t5 : decide (b2 < n) = true := decide_eq_true (by have := of_decide_eq_true t3; omega)
    cases q2 with
    | false =>
      have t6 : (lf == 0) = false := beq_eq_false_iff_ne.2 fun e => by rw [e] at t4; cases t4
      have t7 : ¬ lf = 0 := fun e => by rw [e] at t4; cases t4
      go_enter Try.func13, Try.ntmps13
      go_wp2_with (first
        | (go_at_call 28; refine (rstep_is H hn hg).mono ?_; clear H; rintro e w1 ⟨rfl, H⟩; rw [HS.out] at H)
        | (go_at_call 29; refine (rat_in H hn' HA.out HM.out).mono ?_; clear H; rintro e w2 ⟨rfl, H⟩; obtain ⟨c0, -, -⟩ := cells3 H.ref.1; obtain ⟨g, rfl, c1, c2⟩ := pair_at (l := st.l) H.ref.2 HN.out HP.out; rw [HM.out] at c1 c2; obtain ⟨f1, H3⟩ := ref_set (st := ⟨st.l, bk, lf⟩) H HN.out HE.out y _ HL.out; rw [HM.out] at f1 H3; clear H; obtain ⟨d0, d1, d2⟩ := cells3 H3.ref.1))
      clear c0 c1 c2 f1 hmi hmn HM HN HL HE HA HP
      go_quiet (fail)
      clear d0 d1 d2 t1 t2 t3 t4 t5 t6 t7
      go_wp2
      go_end0
      exact ⟨rfl, _, by rw [HO.out rfl]; exact H3.drewN _⟩
    | true =>
      have t6 : lf = 0 := by have := beq_iff_eq.1 t4; omega
      go_enter Try.func13, Try.ntmps13
      go_wp2_with (first
        | (go_at_call 28; refine (rstep_is H hn hg).mono ?_; clear H; rintro e w1 ⟨rfl, H⟩; rw [HS.out] at H)
        | (go_at_call 29; refine (rat_in H hn' HA.out HM.out).mono ?_; clear H; rintro e w2 ⟨rfl, H⟩; obtain ⟨c0, -, -⟩ := cells3 H.ref.1; obtain ⟨g, rfl, c1, c2⟩ := pair_at (l := st.l) H.ref.2 HN.out HP.out; rw [HM.out] at c1 c2; obtain ⟨f1, H3⟩ := ref_set (st := ⟨st.l, bk, lf⟩) H HN.out HE.out y _ HL.out; rw [HM.out] at f1 H3; clear H; obtain ⟨d0, d1, d2⟩ := cells3 H3.ref.1))
      clear c0 c1 c2 f1 hmi hmn HM HN HL HE HA HP
      subst t6
      go_quiet (fail)
      have H4 := H3.drewN nq
      clear H3 d0 d1 d2 t3 t4 t5
      obtain ⟨d0, d1, d2⟩ := cells3 H4.ref.1
      obtain ⟨g1, g2, g3, g4, H5⟩ := ref_grow (st := ⟨l2, bk, 0⟩) H4 b2
      clear H4
      go_wp2
      go_end0
      exact ⟨rfl, _, by rw [HY.out rfl]; exact H5⟩
end Go.Proofs.Ytncblaofgdcfmaa
