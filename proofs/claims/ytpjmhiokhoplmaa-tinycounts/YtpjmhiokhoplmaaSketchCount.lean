/- What Count of package sketch answers. Conditions: the text takes at most 300 bytes. -/
import Derived.Test.YtpjmhiokhoplmaaSketchP
import Derived.Test.YtpjmhiokhoplmaaRegionTail
namespace Go.Proofs.Ytpjmhiokhoplmaa
open Go.RowKit Go.Shelf
attribute [local go_sem] Oper.semAt_some

theorem boxes4k (w : World) (v : Value) (s : ByteArray) : ∃ V, (((w.alloc (.cells #[v] 41)).alloc (.cells #[.int .i64 15] 3)).alloc (.cells #[v] 41)).alloc (.cells #[.string s] 9) = V ∧
    Boxed V w.heap.size 41 v ∧ Boxed V (w.heap.size + 1) 3 (.int .i64 15) ∧ Boxed V (w.heap.size + 1 + 1) 41 v ∧ Boxed V (w.heap.size + 1 + 1 + 1) 9 (.string s) ∧ V.heap.size = w.heap.size + 4 ∧ w.grownBy V none := by
  refine ⟨_, rfl, ?_⟩
  have b0 := Boxed.new w 41 v
  have b1 := Boxed.new (w.alloc (.cells #[v] 41)) 3 (.int .i64 15)
  have b2 := Boxed.new ((w.alloc (.cells #[v] 41)).alloc (.cells #[.int .i64 15] 3)) 41 v
  have b3 := Boxed.new (((w.alloc (.cells #[v] 41)).alloc (.cells #[.int .i64 15] 3)).alloc (.cells #[v] 41)) 9 (.string s)
  simp only [World.size_alloc] at b1 b2 b3
  exact ⟨((b0.alloc _).alloc _).alloc _, (b1.alloc _).alloc _, b2.alloc _, b3, by simp only [World.size_alloc], gr_trans (gr_trans (gr_trans (World.grownBy_alloc _ _ _) (World.grownBy_alloc _ _ _)) (World.grownBy_alloc _ _ _)) (World.grownBy_alloc _ _ _)⟩

/-- The places of the rows that were told. -/
def plcOf (sd : Nat) (l : List UInt8) (x : Nat) : Nat := plc sd l (row4 x)
theorem plcs_of (sd : Nat) (l : List UInt8) : (List.range 4).map (plcOf sd l) = plcs sd l := rfl
theorem row4_lt (x : Nat) : row4 x < 4 := Nat.mod_lt _ (by decide)
theorem plcR_lt (sd : Nat) (l : List UInt8) (x : Nat) : plcR sd l x < 64 := Nat.mod_lt _ (by decide)
theorem plc_eq (sd : Nat) (l : List UInt8) (x : Nat) : row4 x * 64 + plcR sd l (row4 x) = plcOf sd l x := rfl
theorem cnt_snoc (C : List Nat) (sd : Nat) (l : List UInt8) (pre : List Nat) (x : Nat) : cnt C ((pre ++ [x]).map (plcOf sd l)) = min (cnt C (pre.map (plcOf sd l))) (C.getD (plcOf sd l x) 0) := by
  simp [cnt]

set_option maxRecDepth 100000 in
set_option maxHeartbeats 4000000 in
theorem sk_count {w : World} {b sd : Nat} {st : St} (hF : Sk0 w b sd st) (s : ByteArray) (hs : s.size ≤ 300) : Calls Try.prog 29 #[.pointer (some ⟨b, 0, none⟩), .string s] w fun e w' => e = .returned (.int .i64 (cnt st.1 (plcs sd s.data.toList))) ∧ Sk0 w' b sd st ∧ w.grownBy w' none := by
  refine (callsIn_wide (n := 6)).1 ?_
  have hlt := sk_lt hF
  have HS : Hid (cnt st.1 ((List.range 4).map (plcOf sd s.data.toList)) = cnt st.1 (plcs sd s.data.toList)) := rfl
  refine callsIn_of_wp_marks Try.func29 rfl trivial ?_ rfl
  simp only [Try.ntmps29, List.size_toArray, List.length_cons, List.length_nil, Nat.reduceAdd, Nat.reduceSub, Array.replicate_succ, Array.replicate_zero, List.push_toArray, List.append_toArray, List.nil_append, List.cons_append]
  gi_wp2_with (refine ⟨trivial, ?_⟩; gi_at_call 35; refine (placesKMk_in (6 - 1) b s _).mono ?_; rintro e w1 ⟨rfl, rfl⟩)
  obtain ⟨W0, hW0, bf, br, bf2, bs, sz0, hg0⟩ := boxes4k w (.pointer (some ⟨b, 0, none⟩)) s
  rw [hW0]
  clear hW0
  have hF0 := sk_keep hF (hg0.block b hlt (by simp))
  have hRB : w.heap.size + 1 < W0.heap.size := by omega
  clear sz0
  refine range_own rfl (by decide) (gf := 45) (lb := #[.pointer (some ⟨w.heap.size + 1 + 1, 0, none⟩), .pointer (some ⟨w.heap.size + 1 + 1 + 1, 0, none⟩)]) rfl trivial (enters_of Try.func45 (by kernel_rfl) rfl)
    (placesK_own _ _ b sd s (Nat.le_trans hs (by decide)) W0 bf2.cell bs.cell (blk_seed hF0.2.2)) (Below.refl _ _) (fun _ => rfl)
    (fun (pre : List Nat) V => Boxed V w.heap.size 41 (.pointer (some ⟨b, 0, none⟩)) ∧ (Boxed V (w.heap.size + 1) 3 (.int .i64 (cnt st.1 (pre.map (plcOf sd s.data.toList)) : Nat)) ∧ w.grownBy V none))
    (fun _ _ _ => False)
    (OwnFrom.and (Own.from (boxed_own _ _ (fun _ => _)) _) (OwnFrom.and (Own.from (boxed_own _ _ (fun (pre : List Nat) => .int .i64 (cnt st.1 (pre.map (plcOf sd s.data.toList)) : Nat))) _) (own_grown hg0.size)))
    (fun _ _ _ _ _ hs _ _ => hs)
    ⟨bf, br, hg0⟩ ?a1 ?assign ?body ?done ?stop
  case assign =>
    intro l2 x V K hK
    unfold plKV
    gi_wp2
    exact hK
  case body =>
    rintro l2 pre x V ⟨hbf, hbr, hg⟩ hlen
    have hFV := sk_keep hF (hg.block b hlt (by simp))
    have hcf := hbf.cell
    have hcr := hbr.cell
    have hfr := hbr.frozen
    have hmix : Try.prog.follows .mixedOrders = true := by kernel_rfl
    have hwf : ∀ f, Fence.wide.fn f := fun _ => trivial
    have HC : ∀ k : Nat, CallsIn Fence.wide (4 - 1) Try.prog 36 #[.pointer (some ⟨b, 0, none⟩), .int .i64 (row4 x : Nat), .int .i64 (plcR sd s.data.toList (row4 x) : Nat)] (V.drewN k) fun e w' => e = .returned (.int .i64 ((st.1.getD (plcOf sd s.data.toList x) 0 : Nat) : Int)) ∧ ∃ m, w' = (V.drewN k).drewN m := fun k => callsIn_wide.2 (sk_counter (w := V.drewN k) (sk_keep hFV rfl) (row4 x) (plcR sd s.data.toList (row4 x)) (row4_lt x) (plcR_lt _ _ _))
    have HM := hide (cnt_snoc st.1 sd s.data.toList pre x)
    generalize cnt st.1 (pre.map (plcOf sd s.data.toList)) = n at *
    generalize st.1.getD (plcOf sd s.data.toList x) 0 = c at *
    generalize plcR sd s.data.toList (row4 x) = p at *
    generalize hr4 : row4 x = r at *
    clear hFV hr4
    gi_wp2
    refine region_tail 6 _ l2 rfl rfl (by kernel_rfl) (by kernel_rfl) ?_
    simp only [List.take_succ_cons, List.take_zero]
    repeat (gi_big_quiet_step ((gi_at_call 36; exact CallsIn.quiet_of (HC _))))
    refine wpQuietIn_nil ?_
    rintro _ ⟨nq, rfl⟩
    go_simp
    gi_wp2
    · refine ⟨(since_drewN _ V nq).trans (since_set _ _ hRB), boxed_set hbf (Nat.ne_of_lt (Nat.lt_succ_self _)) _, ?_, gr_new (gr_drewN hg nq) (grownBy_setCell' _ _ _) (Nat.le_succ _)⟩
      rw [HM.out, Nat.min_eq_right (Nat.le_of_lt h)]
      exact Boxed.set _ (show Boxed (V.drewN nq) _ _ _ from hbr)
    · refine ⟨(since_drewN _ V nq).trans (since_set _ _ hRB), boxed_set hbf (Nat.ne_of_lt (Nat.lt_succ_self _)) _, ?_, gr_new (gr_drewN hg nq) (grownBy_setCell' _ _ _) (Nat.le_succ _)⟩
      rw [HM.out, Nat.min_eq_left (Nat.le_of_not_lt h)]
      exact Boxed.set _ (show Boxed (V.drewN nq) _ _ _ from hbr)
  case done =>
    rintro D ys V hD rfl ⟨hbf, hbr, hg⟩ hK
    have hcr := hbr.cell
    rw [HS.out] at hcr
    have hg2 := gr_new hg (grownBy_putObj' V D (.deferred none)) (Nat.le_trans hg0.size hD)
    obtain ⟨n, hn⟩ : ∃ n, n = cnt st.1 (plcs sd s.data.toList) := ⟨_, rfl⟩
    rw [← hn] at hcr
    have HN := hide hn
    clear hn
    gi_wp2
    refine ⟨by simp, .inl ⟨_, _, rfl, run_takeDeferred hK, ?_⟩⟩
    exact ⟨_, results_tmp rfl _ _ _, by rw [← HN.out]; rfl, sk_keep hF (hg2.block b hlt (by simp)), hg2⟩
  case stop =>
    rintro D c pre V _ _ h _
    exact h.elim
end Go.Proofs.Ytpjmhiokhoplmaa
