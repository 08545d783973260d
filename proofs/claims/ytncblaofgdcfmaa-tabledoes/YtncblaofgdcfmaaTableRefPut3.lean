/- Put of the document's own table, of a text that is not there. Conditions: at most 5000 pairs. -/
import Derived.Test.YtncblaofgdcfmaaTableRefPut2
namespace Go.Proofs.Ytncblaofgdcfmaa
open Go.RowKit Go.Shelf

theorem cell_two_new' (w : World) (x y : Value) (t : TypeId) : ∀ (j : Nat) (u : Value), [x, y][j]? = some u → (w.alloc (.cells #[x, y] t)).cell? ((⟨w.heap.size, 0, none⟩ : Addr).add j) = some u := by
  intro j u hu
  have h : (w.alloc (.cells #[x, y] t)).heap[w.heap.size]? = some (.cells #[x, y] t (0, 0)) := World.alloc_heap_new w _
  rw [add_from]
  match j, hu with
  | 0, hu => cases hu; exact (two_cells h).1
  | 1, hu => cases hu; exact (two_cells h).2
set_option maxRecDepth 100000 in
set_option maxHeartbeats 4000000 in
theorem rput_out {w0 w : World} {r : Nat} {st : Ts} {v : Value} {R : Part} (H : Law w0 w ((refP w0.heap.size r st v).and R)) (hn : SmallT st 5000) (hg : GoodT st) (s : ByteArray) (y : Int) (A B : List Kv) (hA : AtK st.l s A B) (hno : ∀ p r, B = p :: r → p.1 ≠ s) :
    Calls Try.prog 13 #[.pointer (some ⟨r, 0, none⟩), .string s, .int .i64 y] w fun e w' => e = .returned (.tuple #[]) ∧ ∃ v', Law w0 w' ((refP w0.heap.size r (putT st s y) v').and R) := by
  obtain ⟨i0, hi, hz0, hz1, hz2⟩ := info_parts info_pair
  obtain ⟨l2, hl2⟩ : ∃ l, A ++ (s, y) :: B = l := ⟨_, rfl⟩
  have hput : putT st s y = growT ⟨l2, st.buckets, st.left - 1⟩ := by unfold putT; rw [at_put_out hA hno, hl2]
  obtain ⟨b2, q1, q2, G⟩ := grows_ex ⟨l2, st.buckets, st.left - 1⟩ (by have := hn.buckets; show st.buckets ≤ 100000; omega)
  rw [← hput] at G
  have hA' : AtK (stepT st).l s A B := hA
  obtain ⟨lf, hlf⟩ : ∃ lf, st.left - 1 = lf := ⟨_, rfl⟩
  obtain ⟨bk, hbk⟩ : ∃ bk, st.buckets = bk := ⟨_, rfl⟩
  have hS : stepT st = ⟨st.l, bk, lf⟩ := by unfold stepT; rw [hlf, hbk]
  have HS := hide hS
  have hn' := smallT_step hn
  rw [hS] at hn' hA'
  clear hS
  have hrow := H.ref.2
  have hlen : A.length + B.length = st.l.length := by rw [hA.eq, List.length_append]
  have hl5 := hn.len
  obtain ⟨u1, r1, F1⟩ := slice_front hrow A.length (by omega)
  obtain ⟨u2, r2, F2⟩ := slice_back hrow A.length (by omega)
  have e1 : st.l.take A.length = A := by rw [hA.eq]; simp
  have e2 : st.l.drop A.length = B := by rw [hA.eq]; simp
  rw [e1] at F1
  rw [e2] at F2
  have HF1 := hide F1
  have HF2 := hide F2
  have HA := hide hA'
  have HX : Hid (∀ p r, B = p :: r → p.1 ≠ s) := hno
  obtain ⟨n, hln2⟩ : ∃ n, l2.length = n := ⟨_, rfl⟩
  have HLN := hide hln2
  have HL3 : Hid (A.length + 1 + B.length = l2.length) := by show _ = _; rw [← hl2]; simp; omega
  have HL4 : Hid (A ++ [(s, y)] ++ B = l2) := by show _ = _; rw [← hl2]; simp
  obtain ⟨m, hlm⟩ : ∃ m, A.length = m := ⟨_, rfl⟩
  rw [hlm] at r1 r2
  have hs0 : 0 + A.length ≤ 20000 := by omega
  have hs1 : A.length + 1 + B.length ≤ 20000 := by omega
  have hs2 : A.length + 1 ≤ maxLen := by unfold maxLen; omega
  have hs3 : (A.length + 1) * 24 ≤ 140737488355328 := by omega
  have hm5 : (m : Int) ≤ 5000 := by omega
  have HM := hide hlm
  rw [hlf, hbk] at G
  have t1 : 2 * (bk : Int) = (b2 : Int) := G.twice
  have t2 := G.wrap
  have t3 : decide ((b2 : Int) < (l2.length : Int)) = q1 := G.more
  have t4 : ((lf : Int) == 0) = q2 := G.none
  rw [hln2] at t3
  have HY : Hid ((q1 && q2) = true → putT st s y = ⟨l2, b2, bk⟩) := G.yes
  have HO : Hid ((q1 && q2) = false → putT st s y = ⟨l2, bk, lf⟩) := G.no
  clear hA hA' hl2 hput G hlm hln2 hno hrow hlen hl5 F1 F2 e1 e2 hlf hbk
  cases q1 with
  | false =>
    have t5 : decide (b2 < n) = false := decide_eq_false fun h => by have := of_decide_eq_false t3; omega
    go_enter Try.func13, Try.ntmps13
    go_wp2_with (first
      | (go_at_call 28; refine (rstep_is H hn hg).mono ?_; clear H; rintro e w1 ⟨rfl, H⟩; rw [HS.out] at H)
      | (go_at_call 29; refine (rat_out H hn' HA.out HX.out HM.out).mono ?_; clear H; rintro e w2 ⟨rfl, H⟩; obtain ⟨c0, -, -⟩ := cells3 H.ref.1; have N := H.nil (n0 := w0.heap.size) (e := 45) (size := 2); have P1 := HF1.out w2 (pairs_own H.ref.2); have hb2 := H.below.size)
      | (at_builtin; refine wpList_append_pairs rfl _ _ rfl w0.heap.size (.slice none 0 0) 0 [] rfl (World.ownsRow_nil _ _ _ _) u1 A rfl P1 hs0 hb2 ?_; intro v1 w3 hown1 hgrow1 hat1; rw [Nat.zero_add, List.nil_append] at hown1; have N1 := N.app0 hown1 hgrow1 hat1; clear N H c0 P1 hgrow1 hat1; have hb3 := N1.below.size)
      | (at_builtin; refine wpList_append_own_at _ rfl _ _ 37 rfl w0.heap.size 45 i0 (.agg #[.string ⟨#[]⟩, .int .i64 0]) 2 24 Try.underlying37 hi hz0 hz1 hz2 rfl (by decide) v1 A.length (kvV A) rfl (hown1.alloc _) ⟨w3.heap.size, 0, none⟩ 1 1 [.string s, .int .i64 y] rfl rfl (cell_two_new' _ _ _ _) (by simp [Value.oneCell']) hs2 hs3 (by rw [World.size_alloc]; exact Nat.le_succ_of_le hb3) ?_; intro v2 w4 hown2 hgrow2 _ hat2; have N2 := N1.app hown2 hgrow2 hat2; rw [← kvV_app A (s, y)] at hown2 N2; clear N1 hown1 hgrow2 hat2; obtain ⟨c0, -, -⟩ := cells3 N2.rot.ref.1; have P2 := HF2.out w4 (pairs_own N2.rot.ref.2); have hb4 := N2.below.size)
      | (at_builtin; refine wpList_append_pairs rfl _ _ rfl w0.heap.size v2 (A.length + 1) (kvV (A ++ [(s, y)])) rfl hown2 u2 B rfl P2 hs1 hb4 ?_; intro v3 w5 hown3 hgrow3 hat3; have N3 := N2.app0 hown3 hgrow3 hat3; rw [HL3.out, ← kvV_cat, HL4.out] at hown3 N3; obtain ⟨k1, k2, H3⟩ := ref_row N3; obtain ⟨a3, cap3, rfl⟩ := own_shape hown3; rw [HLN.out] at H3 ⊢; obtain ⟨d0, d1, d2⟩ := cells3 H3.ref.1))
    clear N2 N3 hown2 hown3 hgrow3 hat3 c0 P2 k1 k2
    go_quiet (fail)
    clear d0 d1 d2 t1 t2 t3 t4 t5
    go_wp2
    go_end0
    exact ⟨rfl, _, by rw [HO.out (by simp)]; exact H3.drewN _⟩
  | true =>
    have t5 : decide (b2 < n) = true := decide_eq_true (by have := of_decide_eq_true t3; omega)
    cases q2 with
    | false =>
      have t6 : (lf == 0) = false := beq_eq_false_iff_ne.2 fun e => by rw [e] at t4; cases t4
      have t7 : ¬ lf = 0 := fun e => by rw [e] at t4; cases t4
      go_enter Try.func13, Try.ntmps13
      go_wp2_with (first
        | (go_at_call 28; refine (rstep_is H hn hg).mono ?_; clear H; rintro e w1 ⟨rfl, H⟩; rw [HS.out] at H)
        | (go_at_call 29; refine (rat_out H hn' HA.out HX.out HM.out).mono ?_; clear H; rintro e w2 ⟨rfl, H⟩; obtain ⟨c0, -, -⟩ := cells3 H.ref.1; have N := H.nil (n0 := w0.heap.size) (e := 45) (size := 2); have P1 := HF1.out w2 (pairs_own H.ref.2); have hb2 := H.below.size)
        | (at_builtin; refine wpList_append_pairs rfl _ _ rfl w0.heap.size (.slice none 0 0) 0 [] rfl (World.ownsRow_nil _ _ _ _) u1 A rfl P1 hs0 hb2 ?_; intro v1 w3 hown1 hgrow1 hat1; rw [Nat.zero_add, List.nil_append] at hown1; have N1 := N.app0 hown1 hgrow1 hat1; clear N H c0 P1 hgrow1 hat1; have hb3 := N1.below.size)
        | (at_builtin; refine wpList_append_own_at _ rfl _ _ 37 rfl w0.heap.size 45 i0 (.agg #[.string ⟨#[]⟩, .int .i64 0]) 2 24 Try.underlying37 hi hz0 hz1 hz2 rfl (by decide) v1 A.length (kvV A) rfl (hown1.alloc _) ⟨w3.heap.size, 0, none⟩ 1 1 [.string s, .int .i64 y] rfl rfl (cell_two_new' _ _ _ _) (by simp [Value.oneCell']) hs2 hs3 (by rw [World.size_alloc]; exact Nat.le_succ_of_le hb3) ?_; intro v2 w4 hown2 hgrow2 _ hat2; have N2 := N1.app hown2 hgrow2 hat2; rw [← kvV_app A (s, y)] at hown2 N2; clear N1 hown1 hgrow2 hat2; obtain ⟨c0, -, -⟩ := cells3 N2.rot.ref.1; have P2 := HF2.out w4 (pairs_own N2.rot.ref.2); have hb4 := N2.below.size)
        | (at_builtin; refine wpList_append_pairs rfl _ _ rfl w0.heap.size v2 (A.length + 1) (kvV (A ++ [(s, y)])) rfl hown2 u2 B rfl P2 hs1 hb4 ?_; intro v3 w5 hown3 hgrow3 hat3; have N3 := N2.app0 hown3 hgrow3 hat3; rw [HL3.out, ← kvV_cat, HL4.out] at hown3 N3; obtain ⟨k1, k2, H3⟩ := ref_row N3; obtain ⟨a3, cap3, rfl⟩ := own_shape hown3; rw [HLN.out] at H3 ⊢; obtain ⟨d0, d1, d2⟩ := cells3 H3.ref.1))
      clear N2 N3 hown2 hown3 hgrow3 hat3 c0 P2 k1 k2
      go_quiet (fail)
      clear d0 d1 d2 t1 t2 t3 t4 t5 t6 t7
      go_wp2
      go_end0
      exact ⟨rfl, _, by rw [HO.out rfl]; exact H3.drewN _⟩
    | true =>
      have t6 : lf = 0 := by have := beq_iff_eq.1 t4; omega
      go_enter Try.func13, Try.ntmps13
      go_wp2_with (first
        | (go_at_call 28; refine (rstep_is H hn hg).mono ?_; clear H; rintro e w1 ⟨rfl, H⟩; rw [HS.out] at H)
        | (go_at_call 29; refine (rat_out H hn' HA.out HX.out HM.out).mono ?_; clear H; rintro e w2 ⟨rfl, H⟩; obtain ⟨c0, -, -⟩ := cells3 H.ref.1; have N := H.nil (n0 := w0.heap.size) (e := 45) (size := 2); have P1 := HF1.out w2 (pairs_own H.ref.2); have hb2 := H.below.size)
        | (at_builtin; refine wpList_append_pairs rfl _ _ rfl w0.heap.size (.slice none 0 0) 0 [] rfl (World.ownsRow_nil _ _ _ _) u1 A rfl P1 hs0 hb2 ?_; intro v1 w3 hown1 hgrow1 hat1; rw [Nat.zero_add, List.nil_append] at hown1; have N1 := N.app0 hown1 hgrow1 hat1; clear N H c0 P1 hgrow1 hat1; have hb3 := N1.below.size)
        | (at_builtin; refine wpList_append_own_at _ rfl _ _ 37 rfl w0.heap.size 45 i0 (.agg #[.string ⟨#[]⟩, .int .i64 0]) 2 24 Try.underlying37 hi hz0 hz1 hz2 rfl (by decide) v1 A.length (kvV A) rfl (hown1.alloc _) ⟨w3.heap.size, 0, none⟩ 1 1 [.string s, .int .i64 y] rfl rfl (cell_two_new' _ _ _ _) (by simp [Value.oneCell']) hs2 hs3 (by rw [World.size_alloc]; exact Nat.le_succ_of_le hb3) ?_; intro v2 w4 hown2 hgrow2 _ hat2; have N2 := N1.app hown2 hgrow2 hat2; rw [← kvV_app A (s, y)] at hown2 N2; clear N1 hown1 hgrow2 hat2; obtain ⟨c0, -, -⟩ := cells3 N2.rot.ref.1; have P2 := HF2.out w4 (pairs_own N2.rot.ref.2); have hb4 := N2.below.size)
        | (at_builtin; refine wpList_append_pairs rfl _ _ rfl w0.heap.size v2 (A.length + 1) (kvV (A ++ [(s, y)])) rfl hown2 u2 B rfl P2 hs1 hb4 ?_; intro v3 w5 hown3 hgrow3 hat3; have N3 := N2.app0 hown3 hgrow3 hat3; rw [HL3.out, ← kvV_cat, HL4.out] at hown3 N3; obtain ⟨k1, k2, H3⟩ := ref_row N3; obtain ⟨a3, cap3, rfl⟩ := own_shape hown3; rw [HLN.out] at H3 ⊢; obtain ⟨d0, d1, d2⟩ := cells3 H3.ref.1))
      clear N2 N3 hown2 hown3 hgrow3 hat3 c0 P2 k1 k2
      subst t6
      go_quiet (fail)
      have H4 := H3.drewN nq
      clear H3 d0 d1 d2 t3 t4 t5
      obtain ⟨d0, d1, d2⟩ := cells3 H4.ref.1
      obtain ⟨g1, g2, g3, g4, H5⟩ := ref_grow (st := ⟨l2, bk, 0⟩) H4 b2
      clear H4
      go_wp2
      go_end0
      exact ⟨rfl, _, by rw [HY.out rfl]; exact H5⟩
theorem rput_is {w0 w : World} {r : Nat} {st : Ts} {v : Value} {R : Part} (H : Law w0 w ((refP w0.heap.size r st v).and R)) (hn : SmallT st 5000) (hg : GoodT st) (s : ByteArray) (y : Int) :
    Calls Try.prog 13 #[.pointer (some ⟨r, 0, none⟩), .string s, .int .i64 y] w fun e w' => e = .returned (.tuple #[]) ∧ ∃ v', Law w0 w' ((refP w0.heap.size r (putT st s y) v').and R) := by
  obtain ⟨A, B, hA⟩ := at_ex st.l s
  rcases at_cases hA with ⟨x, B', rfl⟩ | hno
  · exact rput_in H hn hg s y A B' x hA
  · exact rput_out H hn hg s y A B hA hno
end Go.Proofs.Ytncblaofgdcfmaa
