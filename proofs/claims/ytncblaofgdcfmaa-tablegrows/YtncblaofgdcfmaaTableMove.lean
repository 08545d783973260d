/- More buckets, and the moving of one of the elder ones. Conditions: at most 5000 texts, of at most 300 bytes each. -/
import Derived.Test.YtncblaofgdcfmaaTableInst
import Derived.Test.YtncblaofgdcfmaaAppendStep
import Derived.Deep.RegionLaw
namespace Go.Proofs.Ytncblaofgdcfmaa
open Go.RowKit

theorem LawF.forget {F : Nat → Prop} {w0 w : World} {A B C D : Part} (H : LawF F w0 w (A.and (B.and (C.and D)))) : LawF F w0 w (A.and (B.and (C.and Part.emp))) :=
  H.weak (fun h => ⟨h.1, ⟨h.2.1.1, ⟨h.2.1.2.1.1, trivial, fun _ _ h => h.elim⟩, fun k h1 h2 => h.2.1.2.2 k h1 (h2.imp id fun h => h.elim)⟩, fun k h1 h2 => h.2.2 k h1 (h2.imp id fun h => h.imp id fun h => h.elim)⟩) fun _ hk => hk.imp id fun h => h.imp id fun h => h.imp id fun h => h.elim
set_option maxRecDepth 100000 in
set_option maxHeartbeats 2000000 in
theorem grow_any {F : Nat → Prop} {w0 w : World} {b : Nat} {st : Ts} (h : Tab F w0 w b st) (h8 : 8 ≤ st.buckets) (hl : st.left = 0) (hN : st.buckets ≤ 20000) :
    Calls Try.prog 27 #[.pointer (some ⟨b, 0, none⟩)] w fun e w' => e = .returned (.tuple #[]) ∧ Tab F w0 w' b ⟨st.l, 2 * st.buckets, st.buckets⟩ := by
  obtain ⟨sd, vB, vE, bv, ev, B, E, L, fit, hsd, hsh⟩ := h
  obtain ⟨gB, cB, rfl⟩ := own_form L.q.2.1.1 (by omega)
  rw [hl] at fit
  have HF := hide fit.grow
  obtain ⟨N, hNN⟩ : ∃ N, st.buckets = N := ⟨_, rfl⟩
  rw [hNN] at L HF h8 hN ⊢
  have L0 := L.forget
  obtain ⟨-, -, c2, c3⟩ := head4 L0.q.1
  have f3 := frozen_of_row w b 3 _ _ L0.q.1
  have L1 := L0.setAt 3 (.slice (some ⟨gB, 0, none⟩) N cB)
  obtain ⟨-, -, d2, d3⟩ := head4 (show (w.setCell ⟨b, 3, none⟩ (.slice (some ⟨gB, 0, none⟩) N cB)).heap[b]? = some (.cells #[.int .u64 sd, .int .i64 (st.l.length : Nat), .slice (some ⟨gB, 0, none⟩) N cB, .slice (some ⟨gB, 0, none⟩) N cB] 52 (0, 0)) from L1.q.1)
  obtain ⟨w1, hw1⟩ : ∃ w1, w.setCell ⟨b, 3, none⟩ (.slice (some ⟨gB, 0, none⟩) N cB) = w1 := ⟨_, rfl⟩
  rw [hw1] at L1 d2 d3
  obtain ⟨w2, hr0, ho2, hg2⟩ := make_buckets w1 (2 * N) (by omega)
  have hr2 : (Instr.makeSlice 50 (.int .i64 (2 * (N : Int))) (.int .i64 (2 * (N : Int)))).run Try.prog w1 = .ok (.slice (some ⟨w1.heap.size, 0, none⟩) (2 * N) (2 * N)) w2 := by
    have e : ((2 * N : Nat) : Int) = 2 * (N : Int) := by omega
    rw [e] at hr0
    exact hr0
  have L2 := (L1.made ho2 hg2).rin.rot
  obtain ⟨-, -, d4, -⟩ := head4 (show w2.heap[b]? = some (.cells #[.int .u64 sd, .int .i64 (st.l.length : Nat), .slice (some ⟨gB, 0, none⟩) N cB, .slice (some ⟨gB, 0, none⟩) N cB] 52 (0, 0)) from L2.q.1)
  have f4 := frozen_of_row w2 b 2 _ _ L2.q.1
  have L3 := hide (L2.setAt 2 (.slice (some ⟨w1.heap.size, 0, none⟩) (2 * N) (2 * N)))
  have e1 : wrap64 (2 * (N : Int)) = 2 * (N : Int) := by unfold wrap64; omega
  have HS := hide hsh
  clear L L0 L1 L2 hr0 ho2 hg2 fit hNN hsh
  go_enter Try.func27, Try.ntmps27
  go_wp2
  go_end0
  exact ⟨rfl, sd, _, _, _, _, _, _, L3.out, HF.out, hsd, HS.out⟩
theorem LawF.tail3 {F : Nat → Prop} {w0 w : World} {A B C T T' : Part} (H : LawF F w0 w (A.and (B.and (C.and T)))) (hq : T.q w → T'.q w) (ho : ∀ k, T'.own k → T.own k) : LawF F w0 w (A.and (B.and (C.and T'))) :=
  H.weak (fun h => ⟨h.1, ⟨h.2.1.1, ⟨h.2.1.2.1.1, hq h.2.1.2.1.2.1, fun k h1 h2 => h.2.1.2.1.2.2 k h1 (ho k h2)⟩, fun k h1 h2 => h.2.1.2.2 k h1 (h2.imp id (ho k))⟩, fun k h1 h2 => h.2.2 k h1 (h2.imp id fun h => h.imp id (ho k))⟩) fun k hk => hk.imp id fun h => h.imp id fun h => h.imp id (ho k)
/-- While the last elder bucket is moved. -/
def movP (b sd many : Nat) (vB vE vm : Value) (N last : Nat) (bv ev : Nat → Value) (B E : Nat → List Kv) (M : List Kv) : Part :=
  (arP vB N bv).and ((manyP (· < N) (enF bv B)).and ((headP b sd many vB vE).and ((manyP (· < last) (enF ev E)).and ((enP vm M).and ((arP vE last ev).and Part.emp)))))
section
variable {F : Nat → Prop} {w0 w : World} {b sd many N last gE cE : Nat} {vB vE vm : Value} {bv ev : Nat → Value} {B E : Nat → List Kv} {M : List Kv}
theorem refs_congr {n : Nat} {f g : Nat → Value} (h : ∀ i, i < n → f i = g i) : refs n f = refs n g := List.map_congr_left fun i hi => h i (List.mem_range.1 hi)
theorem mov_open (H : LawF F w0 w (tabP b sd many vB (.slice (some ⟨gE, 0, none⟩) (last + 1) cE) N (last + 1) bv ev B E)) :
    (w.setCell ⟨gE, last, none⟩ (.slice none 0 0)).heap[b]? = some (.cells #[.int .u64 sd, .int .i64 (many : Nat), vB, .slice (some ⟨gE, 0, none⟩) (last + 1) cE] 52 (0, 0)) ∧
    LawF F w0 ((w.setCell ⟨gE, last, none⟩ (.slice none 0 0)).setCell ⟨b, 3, none⟩ (.slice (some ⟨gE, 0, none⟩) last cE)) (movP b sd many vB (.slice (some ⟨gE, 0, none⟩) last cE) (ev last) N last bv ev B E (E last)) := by
  have H1 := H.toE.arSet (i := last) (.slice none 0 0)
  have H2 := H1.weak1 (A' := arP (.slice (some ⟨gE, 0, none⟩) last cE) last ev) (fun hq => by
    have := row_take (k := last) hq (Nat.le_succ _)
    rw [Nat.mul_one, refs_take _ _ _ (Nat.le_succ _), refs_congr (g := ev) (fun i hi => updF_other _ _ (Nat.ne_of_lt hi))] at this
    exact this) (fun k hk => hk)
  have H3 := (H2.rot.pick last (Nat.lt_succ_self _)).rot
  have H4 := H3.weak1 (A' := manyP (· < last) (enF ev E)) (fun hq => ⟨fun i hi => hq.1 i ⟨Nat.lt_succ_of_lt hi, Nat.ne_of_lt hi⟩, fun i j hi hj => hq.2 i j ⟨Nat.lt_succ_of_lt hi, Nat.ne_of_lt hi⟩ ⟨Nat.lt_succ_of_lt hj, Nat.ne_of_lt hj⟩⟩) (fun k ⟨i, hi, hk⟩ => ⟨i, ⟨Nat.lt_succ_of_lt hi, Nat.ne_of_lt hi⟩, hk⟩)
  have H5 := H4.rot4
  refine ⟨H5.q.1, ?_⟩
  have H6 := H5.setAt 3 (.slice (some ⟨gE, 0, none⟩) last cE)
  have H7 := H6.in1 (fun h => toE_q h) (fun k hk => by
    rcases hk with h | h | h | h | h | h
    · exact .inr (.inr (.inr (.inl h)))
    · exact .inr (.inr (.inr (.inr (.inl h))))
    · exact .inl h
    · exact .inr (.inl h)
    · exact .inr (.inr (.inl h))
    · exact .inr (.inr (.inr (.inr (.inr h)))))
  exact H7.rot.rin
theorem mov_shut (H : LawF F w0 w (movP b sd many vB vE vm N last bv ev B E M)) : LawF F w0 w (tabP b sd many vB vE N last bv ev B E) := by
  have H1 := H.rin.rot
  exact H1.tail3 (fun h => ⟨h.2.1.2.1.1, ⟨h.1, trivial, fun _ _ h => h.elim⟩, fun k h1 h2 => h2.elim (fun h3 => h.2.2 k h3 (.inr (.inl h1))) fun h => h.elim⟩) fun k hk => hk.elim (fun h => .inr (.inr (.inl h))) fun h => h.elim .inl fun h => h.elim
end
theorem mov_app {F : Nat → Prop} {w0 w w1 : World} {R : Part} {g N cap i : Nat} {bv : Nat → Value} {B : Nat → List Kv} {p : Kv} {v' : Value} {tmp : Obj} (L : LawF F w0 w ((arP (.slice (some ⟨g, 0, none⟩) N cap) N bv).and ((manyP (· < N) (enF bv B)).and R))) (hi : i < N)
    (hown : w1.ownsRow 0 63 2 v' ((B i).length + 1) (enV (B i) ++ [.string p.1, .int .i64 p.2])) (hgrow : (w.alloc tmp).grownBy w1 (bv i).ownBlock) (hat : v'.ownBlock = (bv i).ownBlock ∨ v'.ownBlock = some (w.alloc tmp).heap.size) :
    w1.cell? ⟨g, i, none⟩ = some (bv i) ∧ w1.frozen? ⟨g, i, none⟩ = false ∧ R.q w1 ∧ LawF F w0 (w1.setCell ⟨g, i, none⟩ v') ((arP (.slice (some ⟨g, 0, none⟩) N cap) N (updF bv i v')).and ((manyP (· < N) (enF (updF bv i v') (updF B i (B i ++ [p])))).and R)) := by
  have L1 := ((L.sel hi).rot.app hown hgrow hat).rot
  obtain ⟨c, f⟩ := ar_cell L1.q.1 hi
  refine ⟨c, f, L1.q.2.1.2.1.2.1, ?_⟩
  have L2 := L1.arSet (i := i) v'
  have e1 : (B i).length + 1 = (B i ++ [p]).length := by simp
  have e2 : enV (B i) ++ [.string p.1, .int .i64 p.2] = enV (B i ++ [p]) := by rw [enV_app, enV_one]
  rw [e1, e2] at L2
  exact L2.unsel
theorem cells2 {w : World} {k : Nat} {t : TypeId} {x y : Value} (h : w.heap[k]? = some (.cells #[x, y] t (0, 0))) : w.cell? ⟨k, 0, none⟩ = some x ∧ w.cell? ⟨k, 1, none⟩ = some y := by
  simp [World.cell?, h]
set_option maxRecDepth 100000 in
set_option maxHeartbeats 4000000 in
theorem move_some {F : Nat → Prop} {w0 w : World} {b : Nat} {st : Ts} {last : Nat} (h : Tab F w0 w b st) (hG : GoodT st) (hS : SmallT st 5000) (hl : st.left = last + 1) :
    Calls Try.prog 24 #[.pointer (some ⟨b, 0, none⟩)] w fun e w' => e = .returned (.tuple #[]) ∧ Tab F w0 w' b ⟨st.l, st.buckets, last⟩ := by
  obtain ⟨sd, vB, vE, bv, ev, B, E, L, fit, hsd, hsh⟩ := h
  have h8 := hG.eight
  have hN := hS.buckets
  have hlen := hS.len
  have hroom := hG.room
  obtain ⟨gB, cB, rfl⟩ := own_form L.q.2.1.1 (by omega)
  obtain ⟨gE, cE, rfl⟩ := own_form L.q.2.1.2.1.2.1.1 (by omega)
  rw [hl] at L fit hroom
  obtain ⟨N, hNN⟩ : ∃ N, st.buckets = N := ⟨_, rfl⟩
  rw [hNN] at L fit h8 hN hroom ⊢
  obtain ⟨-, -, -, c3⟩ := head4 L.q.1
  obtain ⟨ce, fe⟩ := ar_cell L.toE.q.1 (Nat.lt_succ_self last)
  obtain ⟨h1, L1⟩ := mov_open L
  obtain ⟨-, -, -, d3⟩ := head4 h1
  have f3 := frozen_of_row _ b 3 _ _ h1
  have hcap := own_cap L.toE.q.1
  have hM0 := fit.moving
  have hMl : (E last).length ≤ 5000 := by
    have := fit.perm.length_eq
    rw [flat_succ] at this
    simp at this
    omega
  have HM := hide hM0
  obtain ⟨M, hM⟩ : ∃ M, E last = M := ⟨_, rfl⟩
  obtain ⟨vm, hvm⟩ : ∃ v, ev last = v := ⟨_, rfl⟩
  rw [hM] at L1 HM hMl
  rw [hvm] at L1 ce
  have hrowM : World.ownsRow _ 0 63 2 vm M.length (enV M) := L1.q.2.1.2.1.2.1.2.1.1
  obtain ⟨pm, cm, rfl⟩ := own_shape hrowM
  obtain ⟨n, hn⟩ : ∃ n, M.length = n := ⟨_, rfl⟩
  rw [hn] at L1 hMl ce
  have HL := hide L1
  have HS := hide hsh
  have hlc : (last : Int) ≤ (cE : Int) := by omega
  have e1 : wrap64 (((last + 1 : Nat) : Int) - 1) = (last : Int) := by unfold wrap64; omega
  clear L L1 hM0 fit hsh h1 hrowM hvm hM hNN
  go_enter Try.func24, Try.ntmps24
  go_wp2
  go_loopw [5, 6, 39] (fun _ _ i wr => ∃ (j : Nat) (bv' : Nat → Value) (B' : Nat → List Kv), j ≤ n ∧ i = .int .i64 j ∧ Hid (LawF F w0 wr (movP b sd st.l.length (.slice (some ⟨gB, 0, none⟩) N cB) (.slice (some ⟨gE, 0, none⟩) last cE) (.slice pm n cm) N last bv' ev B' E M)) ∧ Hid (Moving sd N last B' E (M.drop j) st.l)) (fun _ _ i _ => n - (intOf i).toNat)
  case atStart => exact ⟨0, bv, B, Nat.zero_le _, rfl, HL, HM⟩
  case round =>
    clear HL HM d3 f3 c3 ce fe
    obtain ⟨j, bv, B, hj, rfl, HL, HM⟩ := hrel
    by_cases hlt : j < n
    · have hji : (j : Int) < (n : Int) := by omega
      have hp : M[j]? = some (M[j]'(by omega)) := List.getElem?_eq_getElem _
      have hdrop : M.drop j = M[j]'(by omega) :: M.drop (j + 1) := List.drop_eq_getElem_cons _
      rw [hdrop] at HM
      have hrow : wr.ownsRow 0 63 2 (.slice pm n cm) n (enV M) := by
        have := HL.out.q.2.1.2.1.2.1.2.1.1
        unfold enP rowP at this
        rw [hn] at this
        exact this
      obtain ⟨ga, rfl, c1, c2⟩ := entry_at hrow hp
      generalize M[j]'(by omega) = p at *
      obtain ⟨a, y⟩ := p
      have hin : (a, y) ∈ st.l := HM.out.perm.mem_iff.1 (List.mem_append_right _ List.mem_cons_self)
      have hak : a.size ≤ 300 := HS.out _ hin
      have hpl := HM.out.todo (a, y) List.mem_cons_self
      dsimp only at hpl
      have hiN : plN sd N a < N := Nat.mod_lt _ (by omega)
      have hBl : (B (plN sd N a)).length ≤ 5000 := by
        obtain ⟨rest, hr⟩ := flat_pick B _ N hiN
        have h1 := (hr (B (plN sd N a))).length_eq
        rw [updF_self] at h1
        have h2 := HM.out.perm.length_eq
        simp at h1 h2
        omega
      have HM2 := hide (HM.out.step (by omega))
      have L0 := (HL.out.box (.cells #[.string a, .int .i64 y] 63)).rot.rin
      have HP := hide (place_new L0.q.2.1.2.1.2.1.1 hsd h8 (by omega) a hak (Nat.le_of_eq hpl.symm))
      obtain ⟨i, hi⟩ : ∃ i, plN sd N a = i := ⟨_, rfl⟩
      dsimp only at HM2
      rw [hi] at HP hiN hBl HM2
      replace L0 := hide L0
      clear hp hdrop hrow HL HM hin hak hpl hi
      obtain ⟨i0, hi0, hz0, hz1, hz2⟩ := info_parts info_entry
      go_upto_region 9 with (go_at_call 25; refine HP.out.mono ?_; rintro e w1 ⟨rfl, hg1⟩)
      have L1 := L0.out.step hg1
      clear L0 HP c1 c2
      have Ld := L1.drew
      have La := (L1.alloc (.cells #[.string a, .int .i64 y] 63)).drew
      obtain ⟨x0, x1⟩ := cells2 Ld.q.2.1.2.1.1
      obtain ⟨y0, y1⟩ := cells2 La.q.2.1.2.1.1
      have cb := (ar_cell Ld.q.1 hiN).1
      have ca := (ar_cell La.q.1 hiN).1
      have hrow : w1.drew.ownsRow 0 63 2 (bv i) (B i).length (enV (B i)) := (Ld.sel hiN).q.2.1.1
      clear La L1
      go_region_law ((refine step_append_own_at _ 53 (by rfl) rfl _ _ 61 (by rfl) 0 63 i0 (.agg #[.string ⟨#[]⟩, .int .i64 0]) 2 24 Try.underlying61 hi0 hz0 hz1 hz2 rfl (by decide) (bv i) _ _ (by rfl) (hrow.alloc _) ⟨_, 0, none⟩ 1 1 [.string a, .int .i64 y] (by rfl) rfl (cell_two_new _ _ _ _) (by simp [Value.oneCell']) (by unfold maxLen; omega) (by omega) (Nat.zero_le _) ?_; intro v' w3 hown' hgrow hat; obtain ⟨g', cap', rfl⟩ := ownsRow_succ hown'; obtain ⟨cc, ff, nq, L3⟩ := mov_app (p := (a, y)) Ld hiN hown' hgrow hat; replace L3 := hide L3.rin.rot.right))
      all_goals
        clear cc ff nq hown' hgrow hat x0 x1 y0 y1 cb ca Ld hrow
        go_wp2
        go_roundw
        case rel => exact ⟨j + 1, _, _, hlt, by go_num, L3, HM2⟩
        case measure => simp [intOf]; omega
    · obtain rfl : j = n := by omega
      have hji : ¬ (j : Int) < (j : Int) := by omega
      have HD : Hid (Moving sd N last B E [] st.l) := by
        have h := HM.out
        rwa [List.drop_of_length_le (by omega)] at h
      clear HM hlt
      go_wp2
      go_end0
      exact ⟨rfl, sd, _, _, _, _, _, _, mov_shut HL.out, HD.out.done, hsd, HS.out⟩
end Go.Proofs.Ytncblaofgdcfmaa
