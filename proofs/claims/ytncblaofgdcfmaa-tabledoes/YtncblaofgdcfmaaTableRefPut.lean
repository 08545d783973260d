/- Get, Delete and Put of the document's own table. Conditions: at most 5000 pairs. -/
import Derived.Test.YtncblaofgdcfmaaTableRefAt
namespace Go.Proofs.Ytncblaofgdcfmaa
open Go.RowKit Go.Shelf

theorem at_bool {l A B : List Kv} {s : ByteArray} (hr : Rising l) (h : AtK l s A B) : (getL s l).isSome = true ↔ ∃ x B', B = (s, x) :: B' := by
  rcases at_cases h with ⟨x, B', rfl⟩ | hn
  · rw [at_get_in hr h]
    exact ⟨fun _ => ⟨x, B', rfl⟩, fun _ => rfl⟩
  · rw [at_get_out hr h hn]
    refine ⟨fun e => (by cases e), ?_⟩
    rintro ⟨x, B', rfl⟩
    exact (hn _ _ rfl rfl).elim
theorem rat_in {w0 w : World} {r : Nat} {st : Ts} {v : Value} {R : Part} (H : Law w0 w ((refP w0.heap.size r st v).and R)) (hn : SmallT st 5000) {s : ByteArray} {A B : List Kv} {x : Int} (hA : AtK st.l s A ((s, x) :: B)) {m : Nat} (hm : A.length = m) :
    Calls Try.prog 29 #[.pointer (some ⟨r, 0, none⟩), .string s] w fun e w' => e = .returned (.tuple #[.int .i64 (m : Nat), .bool true]) ∧ Law w0 w' ((refP w0.heap.size r st v).and R) := by
  subst hm
  exact rat_is H hn s A _ hA true ⟨fun _ => ⟨x, B, rfl⟩, fun _ => rfl⟩
theorem rat_out {w0 w : World} {r : Nat} {st : Ts} {v : Value} {R : Part} (H : Law w0 w ((refP w0.heap.size r st v).and R)) (hn : SmallT st 5000) {s : ByteArray} {A B : List Kv} (hA : AtK st.l s A B) (hno : ∀ p r, B = p :: r → p.1 ≠ s) {m : Nat} (hm : A.length = m) :
    Calls Try.prog 29 #[.pointer (some ⟨r, 0, none⟩), .string s] w fun e w' => e = .returned (.tuple #[.int .i64 (m : Nat), .bool false]) ∧ Law w0 w' ((refP w0.heap.size r st v).and R) := by
  subst hm
  exact rat_is H hn s A _ hA false ⟨fun e => (by cases e), fun ⟨x', B'', e⟩ => (hno _ _ e rfl).elim⟩
set_option maxRecDepth 100000 in
set_option maxHeartbeats 2000000 in
theorem rget_is {w0 w : World} {r : Nat} {st : Ts} {v : Value} {R : Part} (H : Law w0 w ((refP w0.heap.size r st v).and R)) (hn : SmallT st 5000) (hg : GoodT st) (s : ByteArray) (x : Int) (q : Bool) (hx : (getL s st.l).getD 0 = x) (hq : hasT st s = q) :
    Calls Try.prog 15 #[.pointer (some ⟨r, 0, none⟩), .string s] w fun e w' => e = .returned (.tuple #[.int .i64 x, .bool q]) ∧ Law w0 w' ((refP w0.heap.size r (stepT st) v).and R) := by
  subst hx
  subst hq
  obtain ⟨A, B, hA⟩ := at_ex st.l s
  have hb := at_bool hg.rise hA
  have hA' : AtK (stepT st).l s A B := hA
  have hn' := smallT_step hn
  rcases at_cases hA with ⟨x, B', rfl⟩ | hno
  · have g1 := at_get_in hg.rise hA
    have g2 : hasT st s = true := by unfold hasT; rw [g1]; rfl
    rw [g1, g2]
    obtain ⟨pa, cap, rfl⟩ := own_shape H.ref.2
    obtain ⟨n, hln⟩ : ∃ n, st.l.length = n := ⟨_, rfl⟩
    rw [hln] at H ⊢
    have hmn : A.length < n := by rw [← hln, hA.eq]; simp
    have hp := (at_here hA).1
    have HP := hide hp
    have HA := hide hA'
    obtain ⟨m, hlm⟩ : ∃ m, A.length = m := ⟨_, rfl⟩
    rw [hlm] at hmn
    have hmi : (m : Int) < (n : Int) := by omega
    have HM := hide hlm
    clear hA hA' hb g1 g2 hp hlm
    go_enter Try.func15, Try.ntmps15
    go_wp2_with (first
      | (go_at_call 28; refine (rstep_is H hn hg).mono ?_; clear H; rintro e w1 ⟨rfl, H⟩)
      | (go_at_call 29; refine (rat_in H hn' HA.out HM.out).mono ?_; clear H; rintro e w2 ⟨rfl, H⟩; obtain ⟨c0, -, -⟩ := cells3 H.ref.1; obtain ⟨g, rfl, c1, c2⟩ := pair_at (l := st.l) H.ref.2 hln HP.out; rw [HM.out] at c1 c2))
    go_ret2
    exact ⟨rfl, H⟩
  · have g1 := at_get_out hg.rise hA hno
    have g2 : hasT st s = false := by unfold hasT; rw [g1]; rfl
    rw [g1, g2]
    have HA := hide hA'
    have HN : Hid (∀ p r, B = p :: r → p.1 ≠ s) := hno
    clear hA hA' hb g1 g2 hno
    go_enter Try.func15, Try.ntmps15
    go_wp2_with (first
      | (go_at_call 28; refine (rstep_is H hn hg).mono ?_; clear H; rintro e w1 ⟨rfl, H⟩)
      | (go_at_call 29; refine (rat_out H hn' HA.out HN.out rfl).mono ?_; clear H; rintro e w2 ⟨rfl, H⟩))
    go_ret2
    exact ⟨rfl, H⟩
/-- A new row in the old one's place. -/
theorem ref_row {w0 w : World} {r : Nat} {st : Ts} {v v' : Value} {l' : List Kv} {R : Part} (H : Law w0 w ((rowP w0.heap.size 45 2 v' l'.length (kvV l')).and ((refP w0.heap.size r st v).and R))) :
    w.cell? ⟨r, 0, none⟩ = some v ∧ w.frozen? ⟨r, 0, none⟩ = false ∧ Law w0 (w.setCell ⟨r, 0, none⟩ v') ((refP w0.heap.size r ⟨l', st.buckets, st.left⟩ v').and R) := by
  have H1 := (H.rot.assoc).setAt 0 v'
  exact ⟨(cells3 H.rot.ref.1).1, frozen_of_row w r 0 _ _ H.rot.ref.1, Law.shut (st := ⟨l', st.buckets, st.left⟩) H1.drop2⟩
theorem kvV_cat (l m : List Kv) : kvV (l ++ m) = kvV l ++ kvV m := by simp [kvV]
set_option maxRecDepth 100000 in
set_option maxHeartbeats 4000000 in
theorem rdel_is {w0 w : World} {r : Nat} {st : Ts} {v : Value} {R : Part} (H : Law w0 w ((refP w0.heap.size r st v).and R)) (hn : SmallT st 5000) (hg : GoodT st) (s : ByteArray) (q : Bool) (hq : hasT st s = q) :
    Calls Try.prog 17 #[.pointer (some ⟨r, 0, none⟩), .string s] w fun e w' => e = .returned (.bool q) ∧ ∃ v', Law w0 w' ((refP w0.heap.size r (delT st s) v').and R) := by
  subst hq
  obtain ⟨A, B, hA⟩ := at_ex st.l s
  have hA' : AtK (stepT st).l s A B := hA
  have hn' := smallT_step hn
  rcases at_cases hA with ⟨x, B', rfl⟩ | hno
  · have g1 := at_get_in hg.rise hA
    have g2 : hasT st s = true := by unfold hasT; rw [g1]; rfl
    have g3 : delT st s = ⟨A ++ B', st.buckets, st.left - 1⟩ := by unfold delT; rw [at_del_in hg.rise hA]
    rw [g2, g3]
    have hrow := H.ref.2
    have hlen : A.length + (B'.length + 1) = st.l.length := by rw [hA.eq, List.length_append, List.length_cons]
    have hl5 := hn.len
    obtain ⟨u1, r1, F1⟩ := slice_front hrow A.length (by omega)
    obtain ⟨u2, r2, F2⟩ := slice_back hrow (A.length + 1) (by omega)
    have t1 : st.l.take A.length = A := by rw [hA.eq]; simp
    have t2 : st.l.drop (A.length + 1) = B' := by rw [hA.eq, ← List.drop_drop]; simp
    rw [t1] at F1
    rw [t2] at F2
    have HF1 := hide F1
    have HF2 := hide F2
    have HA := hide hA'
    have hw0 := H.below.size
    obtain ⟨m, hlm⟩ : ∃ m, A.length = m := ⟨_, rfl⟩
    rw [hlm] at r1 r2 hlen
    have r3 : ∀ w : World, (Instr.sliceAt 37 v (some (.int .i64 ((m : Int) + 1))) none none).run Try.prog w = .ok u2 w := r2
    clear r2
    have hs1 : m + B'.length ≤ 20000 := by omega
    have hs0 : 0 + A.length ≤ 20000 := by omega
    have hm5 : (m : Int) + 1 ≤ 6000 := by omega
    have HM := hide hlm
    clear hA hA' g1 g2 g3 F1 F2 t1 t2 hrow hl5 hlen hlm
    go_enter Try.func17, Try.ntmps17
    go_wp2_with (first
      | (go_at_call 28; refine (rstep_is H hn hg).mono ?_; clear H; rintro e w1 ⟨rfl, H⟩)
      | (go_at_call 29; refine (rat_in H hn' HA.out HM.out).mono ?_; clear H; rintro e w2 ⟨rfl, H⟩; obtain ⟨c0, -, -⟩ := cells3 H.ref.1; have N := H.nil (n0 := w0.heap.size) (e := 45) (size := 2); have P1 := HF1.out w2 (pairs_own H.ref.2); have hb2 := H.below.size)
      | (at_builtin; refine wpList_append_pairs rfl _ _ rfl w0.heap.size (.slice none 0 0) 0 [] rfl (World.ownsRow_nil _ _ _ _) u1 A rfl P1 hs0 hb2 ?_; intro v1 w3 hown1 hgrow1 hat1; rw [Nat.zero_add, List.nil_append] at hown1; have N1 := N.app0 hown1 hgrow1 hat1; clear N H c0; obtain ⟨c0, -, -⟩ := cells3 N1.rot.ref.1; have P2 := HF2.out w3 (pairs_own N1.rot.ref.2); have hb3 := N1.below.size)
      | (at_builtin; refine wpList_append_pairs rfl _ _ rfl w0.heap.size v1 A.length (kvV A) rfl hown1 u2 B' rfl P2 (by rw [HM.out]; exact hs1) hb3 ?_; intro v2 w4 hown2 hgrow2 hat2; have N2 := N1.app0 hown2 hgrow2 hat2; rw [← List.length_append, ← kvV_cat] at N2; obtain ⟨k1, k2, N3⟩ := ref_row N2; obtain ⟨a2, cap2, rfl⟩ := own_shape hown2))
    go_ret
    exact ⟨rfl, _, N3⟩
  · have g1 := at_get_out hg.rise hA hno
    have g2 : hasT st s = false := by unfold hasT; rw [g1]; rfl
    have g3 : delT st s = stepT st := by unfold delT stepT; rw [at_del_out hg.rise hA hno]
    rw [g2, g3]
    have HA := hide hA'
    have HN : Hid (∀ p r, B = p :: r → p.1 ≠ s) := hno
    clear hA hA' g1 g2 g3 hno
    go_enter Try.func17, Try.ntmps17
    go_wp2_with (first
      | (go_at_call 28; refine (rstep_is H hn hg).mono ?_; clear H; rintro e w1 ⟨rfl, H⟩)
      | (go_at_call 29; refine (rat_out H hn' HA.out HN.out rfl).mono ?_; clear H; rintro e w2 ⟨rfl, H⟩))
    go_ret
    exact ⟨rfl, _, H⟩
end Go.Proofs.Ytncblaofgdcfmaa
