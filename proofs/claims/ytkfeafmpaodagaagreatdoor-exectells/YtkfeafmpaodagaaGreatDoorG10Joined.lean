/- The places of a text in package sketch: the sequence that is made, and what it tells, one by one, as long as one goes on: it ranges over hash.Several itself. Conditions: the text takes at most 140737488351232 bytes. What Count of package sketch answers. Conditions: the text takes at most 300 bytes. What Add of package sketch does, and with it all of the package's contracts. Conditions: the text takes at most 300 bytes. -/
import Derived.Test.YtkfeafmpaodagaaGreatDoorG06Joined
import Derived.Test.YtkfeafmpaodagaaGreatDoorG09Joined
namespace Go.Proofs.YtkfeafmpaodagaaGreatDoor
open Go.RowKit Go.Shelf
attribute [local go_sem] Oper.semAt_some

set_option maxHeartbeats 1000000 in
theorem placesKMk_in (n b : Nat) (s : ByteArray) (w : World) :
    CallsIn Fence.wide n Tryz.prog 128 #[.pointer (some ⟨b, 0, none⟩), .string s] w fun e w' =>
      e = .returned (.func (.func 161) #[] #[.pointer (some ⟨w.heap.size, 0, none⟩), .pointer (some ⟨w.heap.size + 1, 0, none⟩)]) ∧
      w' = (w.alloc (.cells #[.pointer (some ⟨b, 0, none⟩)] 113)).alloc (.cells #[.string s] 9) := by
  refine callsIn_of_wp Tryz.func128 rfl trivial ?_ rfl
  simp only [Tryz.ntmps128, List.size_toArray, List.length_cons, List.length_nil, Nat.reduceAdd, Nat.reduceSub, Array.replicate_succ, Array.replicate_zero, List.push_toArray, List.append_toArray, List.nil_append, List.cons_append]
  gi_wp2
  go_ret
  exact ⟨rfl, rfl⟩

/-- What is told of the k-th row (of four): its number, and the place in it. -/
def row4 (k : Nat) : Nat := k % 4
def plcR (sd : Nat) (l : List UInt8) (k : Nat) : Nat := sevN sd l k % 64
def plKV (sd : Nat) (l : List UInt8) (k : Nat) : Array Value := #[.int .i64 (row4 k : Nat), .int .i64 (plcR sd l (row4 k) : Nat)]
theorem below_plc (sd : Nat) (l : List UInt8) (k : Nat) : belowN (sevN sd l k) 64 = ((plcR sd l k : Nat) : Int) := by
  unfold belowN plcR
  rw [if_neg (by decide)]
  omega

set_option maxRecDepth 100000 in
set_option maxHeartbeats 4000000 in
theorem placesK1_in (l Bf Bs b sd : Nat) (s : ByteArray) (hs : s.size ≤ 140737488351232) (J Jx : List Nat → World → Prop) (W : World) (hJ : OwnFrom W.heap.size J) (hJx : OwnFrom W.heap.size Jx)
    (hY : ∀ pre x V, J pre V → pre.length < 4 → YieldAt Fence.wide (5 - 1) Tryz.prog l (plKV sd s.data.toList x) V fun e V' =>
      Since W.heap.size V V' ∧ ((e = .returned (.bool true) ∧ J (pre ++ [x]) V') ∨ (e = .returned (.bool false) ∧ Jx (pre ++ [x]) V')))
    (cf : W.cell? ⟨Bf, 0, none⟩ = some (.pointer (some ⟨b, 0, none⟩))) (cs : W.cell? ⟨Bs, 0, none⟩ = some (.string s)) (cd : W.cell? ⟨b, 0, none⟩ = some (.int .u64 sd)) (h0 : J [] W) :
    CallsIn Fence.wide 5 Tryz.prog 161 #[.func (.yield l) #[] #[], .pointer (some ⟨Bf, 0, none⟩), .pointer (some ⟨Bs, 0, none⟩)] W fun e W' => (∃ v, e = .returned v) ∧
      ((∃ ys, ys = List.range 4 ∧ J ys W') ∨ (∃ pre, pre <+: List.range 4 ∧ Jx pre W')) := by
  refine callsIn_of_wp_marks Tryz.func161 rfl trivial ?_ rfl
  simp only [Tryz.ntmps161, List.size_toArray, List.length_cons, List.length_nil, Nat.reduceAdd, Nat.reduceSub, Array.replicate_succ, Array.replicate_zero, List.push_toArray, List.append_toArray, List.nil_append, List.cons_append]
  gi_wp2
  obtain ⟨W1, hW1, bg, sz1, _, cl1, own1⟩ := box1 W (.func (.yield l) #[] #[]) 191
  have cf1 := cl1 _ _ cf
  have cs1 := cl1 _ _ cs
  have cd1 := cl1 _ _ cd
  have j1 := own1 hJ h0
  rw [hW1]
  clear hW1 cl1 own1 cf cs cd h0
  refine Code.wpIn_mono (Meets.imp (b := { tmps := #[.func (.yield l) #[] #[], .pointer (some ⟨Bf, 0, none⟩), .pointer (some ⟨Bs, 0, none⟩), .pointer (some ⟨W.heap.size, 0, none⟩), undef, undef, .pointer (some ⟨b, 0, none⟩), .pointer (some ⟨b, 0, none⟩), .pointer (some ⟨b, 0, none⟩), .int .u64 sd, .string s,
      .func (.func 190) #[] #[.pointer (some ⟨W.heap.size + 1 + 1 + 1, 0, none⟩), .pointer (some ⟨W.heap.size + 1, 0, none⟩), .pointer (some ⟨W.heap.size + 1 + 1, 0, none⟩)], undef, undef, undef, undef, undef, undef, undef, undef], defers := [] })
    (v := (((W1.alloc (.cells #[.int .u64 sd] 22)).alloc (.cells #[.string s] 9)).alloc (.cells #[.int .i64 4] 3)).drew) ?rest) ?region
  case region =>
    gi_region_with (refine ⟨trivial, ?_⟩; gi_at_call 160; refine (severalMk_in (5 - 1) sd s 4 _).mono ?_; rintro e w1 ⟨rfl, rfl⟩)
    all_goals exact ⟨rfl, rfl⟩
  obtain ⟨W2, hW2, bd, bs, bm, sz2, bk2, own2⟩ := boxes3 W1 sd s 4
  have bg2 := bk2 bg
  have j2 := own2 hJ j1
  gi_wp2
  rw [hW2]
  clear hW2 bk2 own2 cf1 cs1 cd1 j1 bg
  rw [sz1] at bd bs bm sz2
  refine wpIn_rangeFunc_ownG rfl (by decide) (gf := 190) (lb := #[.pointer (some ⟨W.heap.size + 1 + 1 + 1, 0, none⟩), .pointer (some ⟨W.heap.size + 1, 0, none⟩), .pointer (some ⟨W.heap.size + 1 + 1, 0, none⟩)]) rfl trivial (enters_of Tryz.func190 (by kernel_rfl) rfl)
    (several_stops_of (5 - 1) (by decide) _ _ _ sd s hs 4 (by decide) (fun x => sevV sd s.data.toList (row4 x)) (fun k hk => by rw [show row4 k = k from Nat.mod_eq_of_lt (show k < 4 from hk)]) W2 (by omega) (by omega) (by omega) bm.cell bd.cell bs.cell) boxesKept_t (boxesKept_b (by omega) (by omega)) (Below.refl _ _) (fun _ => rfl)
    (fun pre V => J pre V ∧ (Boxed V W.heap.size 191 (.func (.yield l) #[] #[]) ∧ (Boxed V (W.heap.size + 1) 22 (.int .u64 sd) ∧ Boxed V (W.heap.size + 1 + 1) 9 (.string s))))
    (fun c pre V => c = .ret ∧ Jx pre V)
    (OwnFrom.and (own_more hJ (by omega)) (OwnFrom.and (Own.from (boxed_own _ _ (fun _ => _)) _) (OwnFrom.and (Own.from (boxed_own _ _ (fun _ => _)) _) (Own.from (boxed_own _ _ (fun _ => _)) _))))
    (fun c => OwnFrom.and (ownFrom_pure _ _) (own_more hJx (by omega)))
    ⟨j2, bg2, bd, bs⟩ ?a1 ?assign ?body ?done ?stop
  case assign =>
    intro l2 x V K hK
    unfold sevV
    gi_wp2
    exact hK
  case body =>
    rintro l2 pre x V ⟨hj, hg, hd, hss⟩ hlt
    have hcg := hg.cell
    obtain ⟨fn, tmps, assign, body, hy, hR⟩ := yield_depth 2 (hY pre x V.drew (own_drew hJ hj) hlt)
    unfold plKV at hy
    have E := hide (below_plc sd s.data.toList (row4 x))
    have hh : sevN sd s.data.toList (row4 x) < 18446744073709551616 := of_lt _ _
    generalize sevN sd s.data.toList (row4 x) = h at *
    generalize row4 x = x4 at *
    have hmix : Tryz.prog.follows .mixedOrders = true := by kernel_rfl
    have hR2 := hR.mono (R' := fun e V' => ∃ q : Bool, e = .returned (.bool q) ∧ Hid (Since W.heap.size V.drew V' ∧ ((q = true ∧ J (pre ++ [x]) V') ∨ (q = false ∧ Jx (pre ++ [x]) V')))) (by
      rintro e V' ⟨h1, ⟨rfl, h2⟩ | ⟨rfl, h2⟩⟩
      · exact ⟨true, rfl, h1, .inl ⟨rfl, h2⟩⟩
      · exact ⟨false, rfl, h1, .inr ⟨rfl, h2⟩⟩)
    clear hR hY
    gi_wp2
    gi_region_with_o (first
      | (refine ⟨trivial, ?_⟩; gi_at_call 156; refine (CallsIn.inRound l2 (callsIn_wide.2 (below_any h hh 64 (by decide) (by decide) _))).mono ?_; rintro e w' ⟨rfl, rfl⟩; rw [E.out])
      | (refine hR2.mono ?_; rintro e V' ⟨q, rfl, HQ⟩))
    all_goals
      obtain ⟨hsn, hq⟩ := HQ.out
      have hsv := (Since.drew W.heap.size V).trans hsn
      clear hsn hy hR2 HQ
      rcases hq with ⟨rfl, hj'⟩ | ⟨rfl, hj'⟩
      · gi_wp2
        exact ⟨hsv.keeps (by omega), boxesKept_of hd hss (hsv.boxed (by omega) hd) (hsv.boxed (by omega) hss), hj', hsv.boxed (by omega) hg, hsv.boxed (by omega) hd, hsv.boxed (by omega) hss⟩
      · gi_wp2
        exact ⟨hsv.keeps (by omega), rfl, hj'⟩
  case done =>
    rintro D ys V hD rfl ⟨hj, hg, hd, hss⟩ hK
    gi_wp2
    refine ⟨by simp, .inl ⟨_, _, rfl, run_takeDeferred hK, ?_⟩⟩
    exact ⟨_, results_none rfl _ _ _, ⟨_, rfl⟩, .inl ⟨_, rfl, own_put hJ _ hj (by omega) hK rfl⟩⟩
  case stop =>
    rintro D c pre V hD hpre ⟨rfl, hj⟩ hK
    gi_wp2
    refine ⟨by simp, .inl ⟨_, _, rfl, run_takeDeferred hK, ?_⟩⟩
    exact ⟨_, results_none rfl _ _ _, ⟨_, rfl⟩, .inr ⟨_, hpre, own_put hJx _ hj (by omega) hK rfl⟩⟩

theorem placesK_own (Bf Bs b sd : Nat) (s : ByteArray) (hs : s.size ≤ 140737488351232) (w : World) (cf : w.cell? ⟨Bf, 0, none⟩ = some (.pointer (some ⟨b, 0, none⟩))) (cs : w.cell? ⟨Bs, 0, none⟩ = some (.string s)) (cd : w.cell? ⟨b, 0, none⟩ = some (.int .u64 sd)) :
    SeqOwn Fence.wide 5 Tryz.prog 161 #[.pointer (some ⟨Bf, 0, none⟩), .pointer (some ⟨Bs, 0, none⟩)] (plKV sd s.data.toList) (fun ys => ys = List.range 4) (fun pre => pre <+: List.range 4) 4 w := fun l J Jx W hW hJ hJx hY h0 =>
  placesK1_in l Bf Bs b sd s hs J Jx W hJ hJx hY ((hW.cell (p := ⟨Bf, 0, none⟩) (block_lt_of_cell cf)).trans cf) ((hW.cell (p := ⟨Bs, 0, none⟩) (block_lt_of_cell cs)).trans cs) ((hW.cell (p := ⟨b, 0, none⟩) (block_lt_of_cell cd)).trans cd) h0
end Go.Proofs.YtkfeafmpaodagaaGreatDoor

namespace Go.Proofs.YtkfeafmpaodagaaGreatDoor
open Go.RowKit Go.Shelf
attribute [local go_sem] Oper.semAt_some

theorem boxes4k (w : World) (v : Value) (s : ByteArray) : ∃ V, (((w.alloc (.cells #[v] 113)).alloc (.cells #[.int .i64 15] 3)).alloc (.cells #[v] 113)).alloc (.cells #[.string s] 9) = V ∧
    Boxed V w.heap.size 113 v ∧ Boxed V (w.heap.size + 1) 3 (.int .i64 15) ∧ Boxed V (w.heap.size + 1 + 1) 113 v ∧ Boxed V (w.heap.size + 1 + 1 + 1) 9 (.string s) ∧ V.heap.size = w.heap.size + 4 ∧ w.grownBy V none := by
  refine ⟨_, rfl, ?_⟩
  have b0 := Boxed.new w 113 v
  have b1 := Boxed.new (w.alloc (.cells #[v] 113)) 3 (.int .i64 15)
  have b2 := Boxed.new ((w.alloc (.cells #[v] 113)).alloc (.cells #[.int .i64 15] 3)) 113 v
  have b3 := Boxed.new (((w.alloc (.cells #[v] 113)).alloc (.cells #[.int .i64 15] 3)).alloc (.cells #[v] 113)) 9 (.string s)
  simp only [World.size_alloc] at b1 b2 b3
  exact ⟨((b0.alloc _).alloc _).alloc _, (b1.alloc _).alloc _, b2.alloc _, b3, by simp only [World.size_alloc], gr_trans (gr_trans (gr_trans (World.grownBy_alloc _ _ _) (World.grownBy_alloc _ _ _)) (World.grownBy_alloc _ _ _)) (World.grownBy_alloc _ _ _)⟩

/-- The places of the rows that were told. -/
def plcOf (sd : Nat) (l : List UInt8) (x : Nat) : Nat := plc sd l (row4 x)
theorem plcs_of (sd : Nat) (l : List UInt8) : (List.range 4).map (plcOf sd l) = plcs sd l := rfl
theorem row4_lt (x : Nat) : row4 x < 4 := Nat.mod_lt _ (by decide)
theorem plcR_lt (sd : Nat) (l : List UInt8) (x : Nat) : plcR sd l x < 64 := Nat.mod_lt _ (by decide)
theorem plc_eq (sd : Nat) (l : List UInt8) (x : Nat) : row4 x * 64 + plcR sd l (row4 x) = plcOf sd l x := rfl
theorem cnt_snoc (C : List Nat) (sd : Nat) (l : List UInt8) (pre : List Nat) (x : Nat) : cnt C ((pre ++ [x]).map (plcOf sd l)) = min (cnt C (pre.map (plcOf sd l))) (C.getD (plcOf sd l x) 0) := by
  simp [cnt]

set_option maxRecDepth 100000 in
set_option maxHeartbeats 4000000 in
theorem sk_count {w : World} {b sd : Nat} {st : St} (hF : Sk0 w b sd st) (s : ByteArray) (hs : s.size ≤ 140737488351232) : Calls Tryz.prog 228 #[.pointer (some ⟨b, 0, none⟩), .string s] w fun e w' => e = .returned (.int .i64 (cnt st.1 (plcs sd s.data.toList))) ∧ Sk0 w' b sd st ∧ w.grownBy w' none := by
  refine (callsIn_wide (n := 6)).1 ?_
  have hlt := sk_lt hF
  have HS : Hid (cnt st.1 ((List.range 4).map (plcOf sd s.data.toList)) = cnt st.1 (plcs sd s.data.toList)) := rfl
  refine callsIn_of_wp_marks Tryz.func228 rfl trivial ?_ rfl
  simp only [Tryz.ntmps228, List.size_toArray, List.length_cons, List.length_nil, Nat.reduceAdd, Nat.reduceSub, Array.replicate_succ, Array.replicate_zero, List.push_toArray, List.append_toArray, List.nil_append, List.cons_append]
  gi_wp2_with (refine ⟨trivial, ?_⟩; gi_at_call 128; refine (placesKMk_in (6 - 1) b s _).mono ?_; rintro e w1 ⟨rfl, rfl⟩)
  obtain ⟨W0, hW0, bf, br, bf2, bs, sz0, hg0⟩ := boxes4k w (.pointer (some ⟨b, 0, none⟩)) s
  rw [hW0]
  clear hW0
  have hF0 := sk_keep hF (hg0.block b hlt (by simp))
  have hRB : w.heap.size + 1 < W0.heap.size := by omega
  clear sz0
  refine range_own rfl (by decide) (gf := 161) (lb := #[.pointer (some ⟨w.heap.size + 1 + 1, 0, none⟩), .pointer (some ⟨w.heap.size + 1 + 1 + 1, 0, none⟩)]) rfl trivial (enters_of Tryz.func161 (by kernel_rfl) rfl)
    (placesK_own _ _ b sd s (Nat.le_trans hs (by decide)) W0 bf2.cell bs.cell (blk_seed hF0.2.2)) (Below.refl _ _) (fun _ => rfl)
    (fun (pre : List Nat) V => Boxed V w.heap.size 113 (.pointer (some ⟨b, 0, none⟩)) ∧ (Boxed V (w.heap.size + 1) 3 (.int .i64 (cnt st.1 (pre.map (plcOf sd s.data.toList)) : Nat)) ∧ w.grownBy V none))
    (fun _ _ _ => False)
    (OwnFrom.and (Own.from (boxed_own _ _ (fun _ => _)) _) (OwnFrom.and (Own.from (boxed_own _ _ (fun (pre : List Nat) => .int .i64 (cnt st.1 (pre.map (plcOf sd s.data.toList)) : Nat))) _) (own_grown hg0.size)))
    (fun _ _ _ _ _ hs _ _ => hs)
    ⟨bf, br, hg0⟩ ?a1 ?assign ?body ?done ?stop
  case assign =>
    intro l2 x V K hK
    unfold plKV
    gi_wp2
    exact hK
  case body =>
    rintro l2 pre x V ⟨hbf, hbr, hg⟩ hlen
    have hFV := sk_keep hF (hg.block b hlt (by simp))
    have hcf := hbf.cell
    have hcr := hbr.cell
    have hfr := hbr.frozen
    have hmix : Tryz.prog.follows .mixedOrders = true := by kernel_rfl
    have hwf : ∀ f, Fence.wide.fn f := fun _ => trivial
    have HC : ∀ k : Nat, CallsIn Fence.wide (4 - 1) Tryz.prog 129 #[.pointer (some ⟨b, 0, none⟩), .int .i64 (row4 x : Nat), .int .i64 (plcR sd s.data.toList (row4 x) : Nat)] (V.drewN k) fun e w' => e = .returned (.int .i64 ((st.1.getD (plcOf sd s.data.toList x) 0 : Nat) : Int)) ∧ ∃ m, w' = (V.drewN k).drewN m := fun k => callsIn_wide.2 (sk_counter (w := V.drewN k) (sk_keep hFV rfl) (row4 x) (plcR sd s.data.toList (row4 x)) (row4_lt x) (plcR_lt _ _ _))
    have HM := hide (cnt_snoc st.1 sd s.data.toList pre x)
    generalize cnt st.1 (pre.map (plcOf sd s.data.toList)) = n at *
    generalize st.1.getD (plcOf sd s.data.toList x) 0 = c at *
    generalize plcR sd s.data.toList (row4 x) = p at *
    generalize hr4 : row4 x = r at *
    clear hFV hr4
    gi_wp2
    refine region_tail 6 _ l2 rfl rfl (by kernel_rfl) (by kernel_rfl) ?_
    simp only [List.take_succ_cons, List.take_zero]
    repeat (gi_big_quiet_step ((gi_at_call 129; exact CallsIn.quiet_of (HC _))))
    refine wpQuietIn_nil ?_
    rintro _ ⟨nq, rfl⟩
    go_simp
    gi_wp2
    · refine ⟨(since_drewN _ V nq).trans (since_set _ _ hRB), boxed_set hbf (Nat.ne_of_lt (Nat.lt_succ_self _)) _, ?_, gr_new (gr_drewN hg nq) (grownBy_setCell' _ _ _) (Nat.le_succ _)⟩
      rw [HM.out, Nat.min_eq_right (Nat.le_of_lt h)]
      exact Boxed.set _ (show Boxed (V.drewN nq) _ _ _ from hbr)
    · refine ⟨(since_drewN _ V nq).trans (since_set _ _ hRB), boxed_set hbf (Nat.ne_of_lt (Nat.lt_succ_self _)) _, ?_, gr_new (gr_drewN hg nq) (grownBy_setCell' _ _ _) (Nat.le_succ _)⟩
      rw [HM.out, Nat.min_eq_left (Nat.le_of_not_lt h)]
      exact Boxed.set _ (show Boxed (V.drewN nq) _ _ _ from hbr)
  case done =>
    rintro D ys V hD rfl ⟨hbf, hbr, hg⟩ hK
    have hcr := hbr.cell
    rw [HS.out] at hcr
    have hg2 := gr_new hg (grownBy_putObj' V D (.deferred none)) (Nat.le_trans hg0.size hD)
    obtain ⟨n, hn⟩ : ∃ n, n = cnt st.1 (plcs sd s.data.toList) := ⟨_, rfl⟩
    rw [← hn] at hcr
    have HN := hide hn
    clear hn
    gi_wp2
    refine ⟨by simp, .inl ⟨_, _, rfl, run_takeDeferred hK, ?_⟩⟩
    exact ⟨_, results_tmp rfl _ _ _, by rw [← HN.out]; rfl, sk_keep hF (hg2.block b hlt (by simp)), hg2⟩
  case stop =>
    rintro D c pre V _ _ h _
    exact h.elim
end Go.Proofs.YtkfeafmpaodagaaGreatDoor

namespace Go.Proofs.YtkfeafmpaodagaaGreatDoor
open Go.RowKit Go.Shelf
attribute [local go_sem] Oper.semAt_some

/-- What a byte gets more: one for its lower counter, sixteen for its upper one. -/
def upBy (p : Nat) : Nat := if p % 2 = 0 then 1 else 16
/-- The byte of a counter that may grow, and the sketch behind it. -/
theorem sk_store {w : World} {b sd a : Nat} {C : List Nat} (h : Sk0 w b sd (C, a)) (r p : Nat) (hr : r < 4) (hp : p < 64) (hc : C.getD (r * 64 + p) 0 < 15) : ∃ y : Nat, w.cell? ⟨b, 2 + 32 * r + p / 2, none⟩ = some (.int .u8 y) ∧ w.frozen? ⟨b, 2 + 32 * r + p / 2, none⟩ = false ∧ y + upBy p < 256 ∧
    ∀ k : Nat, Sk0 ((w.drewN k).setCell ⟨b, 2 + 32 * r + p / 2, none⟩ (.int .u8 ((y + upBy p : Nat) : Int))) b sd (inc C (r * 64 + p), a) := by
  obtain ⟨h1, h2, h3⟩ := h
  have hj : 32 * r + p / 2 < 128 := by omega
  have hg : r * 64 + p < 256 := by omega
  have e1 : (r * 64 + p) / 2 = 32 * r + p / 2 := by omega
  have e2 : (if (r * 64 + p) % 2 = 0 then 1 else 16) = upBy p := by
    unfold upBy
    have : (r * 64 + p) % 2 = p % 2 := by omega
    rw [this]
  have hn := nibble (C := C) h1.le r p
  have hlt := pk_lt (C := C) h1.le (32 * r + p / 2)
  refine ⟨pk C (32 * r + p / 2), ?_, blk_free h3 _, ?_, fun k => ⟨⟨?_, ?_, h1.age⟩, h2, ?_⟩⟩
  · have := blk_at h3 (32 * r + p / 2) (by rw [pack_len]; exact hj)
    rw [pack_getD _ _ hj, ← Nat.add_assoc] at this
    exact this
  · rw [← hn] at hc
    unfold upBy
    rcases Nat.mod_two_eq_zero_or_one p with h | h
    · rw [if_pos h] at hc ⊢
      omega
    · rw [if_neg (by omega)] at hc ⊢
      omega
  · exact (inc_len _ _).trans h1.len
  · exact inc_le _ _ h1.le
  · have := blk_set (w := w.drewN k) (blk_keep h3 rfl) (32 * r + p / 2) (pk C (32 * r + p / 2) + upBy p)
    rw [← Nat.add_assoc] at this
    show Blk _ b sd a (pack (inc C (r * 64 + p)))
    rw [pack_inc h1.len _ hg hc, e1, e2]
    exact this
theorem incs_snoc (C : List Nat) (sd : Nat) (l : List UInt8) (pre : List Nat) (x : Nat) : incs C ((pre ++ [x]).map (plcOf sd l)) = inc (incs C (pre.map (plcOf sd l))) (plcOf sd l x) := by
  simp [incs]
theorem own_sk {β : Type} {B b sd : Nat} (f : β → St) (h : b < B) : OwnFrom B (fun (s : β) V => Sk0 V b sd (f s)) := fun s W W' row hs hg hr =>
  sk_keep hs (hg.block b (sk_lt hs) (fun e => by have := (hr b e.symm).1; omega))
theorem boxes2k (w : World) (v : Value) (s : ByteArray) : ∃ V, ((w.alloc (.cells #[v] 113)).alloc (.cells #[v] 113)).alloc (.cells #[.string s] 9) = V ∧
    Boxed V w.heap.size 113 v ∧ Boxed V (w.heap.size + 1) 113 v ∧ Boxed V (w.heap.size + 1 + 1) 9 (.string s) ∧ w.grownBy V none := by
  refine ⟨_, rfl, ?_⟩
  have b0 := Boxed.new w 113 v
  have b1 := Boxed.new (w.alloc (.cells #[v] 113)) 113 v
  have b2 := Boxed.new ((w.alloc (.cells #[v] 113)).alloc (.cells #[v] 113)) 9 (.string s)
  simp only [World.size_alloc] at b1 b2
  exact ⟨(b0.alloc _).alloc _, b1.alloc _, b2, gr_trans (gr_trans (World.grownBy_alloc _ _ _) (World.grownBy_alloc _ _ _)) (World.grownBy_alloc _ _ _)⟩
theorem incs_good {st : St} (h : GoodK st) (ps : List Nat) : GoodK (incs st.1 ps, st.2) := ⟨(incs_len _ _).trans h.len, incs_le _ _ h.le, h.age⟩

theorem pack_lt {C : List Nat} (h : ∀ c ∈ C, c ≤ 15) : ∀ x ∈ pack C, x < 256 := fun x hx => by
  obtain ⟨j, _, rfl⟩ := List.mem_map.1 hx
  exact pk_lt h j
theorem addK_half (sd : Nat) (st : St) (l : List UInt8) (hh : halved st = true) (h : GoodK st) : pack (addK sd st l).1 = (pack (incs st.1 (plcs sd l))).map halfB ∧ (addK sd st l).2 = 320 := by
  unfold addK
  rw [if_pos hh]
  exact ⟨(pack_half (incs_le _ _ h.le)).symm, rfl⟩
theorem addK_plain (sd : Nat) (st : St) (l : List UInt8) (hh : halved st = false) : addK sd st l = (incs st.1 (plcs sd l), st.2 + 1) := by
  unfold addK
  rw [if_neg (by rw [hh]; decide)]

set_option maxRecDepth 100000 in
set_option maxHeartbeats 4000000 in
theorem sk_add {w : World} {b sd : Nat} {st : St} (hF : Sk0 w b sd st) (s : ByteArray) (hs : s.size ≤ 140737488351232) : Calls Tryz.prog 91 #[.pointer (some ⟨b, 0, none⟩), .string s] w fun e w' => e = .returned (.bool (halved st)) ∧ Sk0 w' b sd (addK sd st s.data.toList) ∧ w.grownBy w' (some b) := by
  refine (callsIn_wide (n := 6)).1 ?_
  have hlt := sk_lt hF
  have HS : Hid (incs st.1 ((List.range 4).map (plcOf sd s.data.toList)) = incs st.1 (plcs sd s.data.toList)) := rfl
  refine callsIn_of_wp_marks Tryz.func91 rfl trivial ?_ rfl
  simp only [Tryz.ntmps91, List.size_toArray, List.length_cons, List.length_nil, Nat.reduceAdd, Nat.reduceSub, Array.replicate_succ, Array.replicate_zero, List.push_toArray, List.append_toArray, List.nil_append, List.cons_append]
  gi_wp2_with (refine ⟨trivial, ?_⟩; gi_at_call 128; refine (placesKMk_in (6 - 1) b s _).mono ?_; rintro e w1 ⟨rfl, rfl⟩)
  obtain ⟨W0, hW0, bf, bf2, bs, hg0⟩ := boxes2k w (.pointer (some ⟨b, 0, none⟩)) s
  rw [hW0]
  clear hW0
  have hF0 := sk_keep hF (hg0.block b hlt (by simp))
  have hbB := Nat.lt_of_lt_of_le hlt hg0.size
  have hne : w.heap.size ≠ b := Nat.ne_of_gt hlt
  refine range_own rfl (by decide) (gf := 161) (lb := #[.pointer (some ⟨w.heap.size + 1, 0, none⟩), .pointer (some ⟨w.heap.size + 1 + 1, 0, none⟩)]) rfl trivial (enters_of Tryz.func161 (by kernel_rfl) rfl)
    (placesK_own _ _ b sd s (Nat.le_trans hs (by decide)) W0 bf2.cell bs.cell (blk_seed hF0.2.2)) (Below.refl _ _) (fun _ => rfl)
    (fun (pre : List Nat) V => Boxed V w.heap.size 113 (.pointer (some ⟨b, 0, none⟩)) ∧ (Sk0 V b sd (incs st.1 (pre.map (plcOf sd s.data.toList)), st.2) ∧ w.grownBy V (some b)))
    (fun _ _ _ => False)
    (OwnFrom.and (Own.from (boxed_own _ _ (fun _ => _)) _) (OwnFrom.and (own_sk (fun (pre : List Nat) => (incs st.1 (pre.map (plcOf sd s.data.toList)), st.2)) hbB) (own_grown hg0.size)))
    (fun _ _ _ _ _ hs _ _ => hs)
    ⟨bf, hF0, gr_any hg0 _⟩ ?a1 ?assign ?body ?done ?stop
  case assign =>
    intro l2 x V K hK
    unfold plKV
    gi_wp2
    exact hK
  case body =>
    rintro l2 pre x V ⟨hbf, hfv, hg⟩ hlen
    have hcf := hbf.cell
    have hp := plcR_lt sd s.data.toList (row4 x)
    have hr := row4_lt x
    have HI := hide (incs_snoc st.1 sd s.data.toList pre x)
    have HP := hide (plc_eq sd s.data.toList x)
    generalize incs st.1 (pre.map (plcOf sd s.data.toList)) = C at *
    generalize plcOf sd s.data.toList x = g at *
    generalize plcR sd s.data.toList (row4 x) = p at *
    generalize row4 x = r at *
    have HC := hide (callsIn_wide (n := 4 - 1).2 (sk_counter hfv r p hr hp))
    rw [HP.out] at HC
    have hwf : ∀ f, Fence.wide.fn f := fun _ => trivial
    have hmix : Tryz.prog.follows .mixedOrders = true := by kernel_rfl
    by_cases hc : C.getD g 0 < 15
    · obtain ⟨y, hcy, hfy, hy, hnew⟩ := sk_store hfv r p hr hp (by rw [HP.out]; exact hc)
      obtain ⟨hq, hqt, hqw, hq8⟩ := quo_half p hp
      have h1 := row_at b r hr
      have h2 := byte_at b (2 + 32 * r) _ hq8
      have hsh := shift_any p hp
      have hup : upBy p = if p % 2 = 0 then 1 else 16 := rfl
      have hm2 := Nat.mod_lt p (show 0 < 2 by decide)
      generalize upBy p = u at *
      generalize p % 2 = m2 at *
      generalize p / 2 = q at *
      have HN := hide hnew
      have hci : ((C.getD g 0 : Nat) : Int) < 15 := by omega
      generalize C.getD g 0 = c at *
      obtain rfl | rfl : m2 = 0 ∨ m2 = 1 := by omega
      · obtain rfl : u = 1 := hup
        have HD : ∀ (W : World) (k : Nat), CallsIn Fence.wide (4 - 1) Tryz.prog 130 #[.int .i64 p] (W.drewN k) fun e w' => e = .returned (.int .i64 0) ∧ w' = W.drewN k := fun W k => (callsIn_wide.2 (hsh _)).mono fun e w' h => ⟨h.1, h.2.symm⟩
        have E : IntKind.u8.wrap ((y : Int) + 1) = ((y + 1 : Nat) : Int) := by rw [IntKind.wrap_u8]; omega
        clear hm2 hsh hnew hc hq8 hr hp hlen hy hfv
        gi_wp2_with (gi_at_call 129; refine (CallsIn.inRound l2 HC.out).mono ?_; clear HC; rintro e w' ⟨rfl, m, rfl⟩)
        have hcf2 : (V.drewN m).cell? ⟨w.heap.size, 0, none⟩ = _ := hcf
        have hcy2 : (V.drewN m).cell? ⟨b, 2 + 32 * r + q, none⟩ = _ := hcy
        have hfy2 : (V.drewN m).frozen? ⟨b, 2 + 32 * r + q, none⟩ = _ := hfy
        generalize hV2 : V.drewN m = V2 at *
        refine region_tail 17 _ l2 rfl rfl (by kernel_rfl) (by kernel_rfl) ?_
        simp only [List.take_succ_cons, List.take_zero]
        repeat (gi_big_quiet_step ((gi_at_call 130; exact CallsIn.quiet_of_same (HD _ _))))
        refine wpQuietIn_nil ?_
        rintro _ ⟨nq, rfl⟩
        go_simp
        gi_wp2
        subst hV2
        have hnw := HN.out (m + nq)
        rw [← World.drewN_drewN, HP.out, ← HI.out] at hnw
        exact ⟨(since_drewN _ V m).trans ((since_drewN _ _ nq).trans (since_set _ _ hbB)), boxed_set (show Boxed (V.drewN m) _ _ _ from hbf) hne _, hnw, set_gr (gr_drewN hg m) _⟩
      · obtain rfl : u = 16 := hup
        have HD : ∀ (W : World) (k : Nat), CallsIn Fence.wide (4 - 1) Tryz.prog 130 #[.int .i64 p] (W.drewN k) fun e w' => e = .returned (.int .i64 4) ∧ w' = W.drewN k := fun W k => (callsIn_wide.2 (hsh _)).mono fun e w' h => ⟨h.1, h.2.symm⟩
        have E : IntKind.u8.wrap ((y : Int) + 16) = ((y + 16 : Nat) : Int) := by rw [IntKind.wrap_u8]; omega
        clear hm2 hsh hnew hc hq8 hr hp hlen hy hfv
        gi_wp2_with (gi_at_call 129; refine (CallsIn.inRound l2 HC.out).mono ?_; clear HC; rintro e w' ⟨rfl, m, rfl⟩)
        have hcf2 : (V.drewN m).cell? ⟨w.heap.size, 0, none⟩ = _ := hcf
        have hcy2 : (V.drewN m).cell? ⟨b, 2 + 32 * r + q, none⟩ = _ := hcy
        have hfy2 : (V.drewN m).frozen? ⟨b, 2 + 32 * r + q, none⟩ = _ := hfy
        generalize hV2 : V.drewN m = V2 at *
        refine region_tail 17 _ l2 rfl rfl (by kernel_rfl) (by kernel_rfl) ?_
        simp only [List.take_succ_cons, List.take_zero]
        repeat (gi_big_quiet_step ((gi_at_call 130; exact CallsIn.quiet_of_same (HD _ _))))
        refine wpQuietIn_nil ?_
        rintro _ ⟨nq, rfl⟩
        go_simp
        gi_wp2
        subst hV2
        have hnw := HN.out (m + nq)
        rw [← World.drewN_drewN, HP.out, ← HI.out] at hnw
        exact ⟨(since_drewN _ V m).trans ((since_drewN _ _ nq).trans (since_set _ _ hbB)), boxed_set (show Boxed (V.drewN m) _ _ _ from hbf) hne _, hnw, set_gr (gr_drewN hg m) _⟩
    · have HK := hide (pack_same (C := C) g hc)
      have hci : ¬ ((C.getD g 0 : Nat) : Int) < 15 := by omega
      generalize C.getD g 0 = c at *
      clear hc hr hp hlen
      gi_wp2_with (gi_at_call 129; refine (CallsIn.inRound l2 HC.out).mono ?_; clear HC; rintro e w' ⟨rfl, m, rfl⟩)
      refine ⟨since_drewN _ V m, hbf, ?_, gr_drewN hg m⟩
      rw [HI.out, HK.out]
      exact sk_keep hfv rfl
  case done =>
    rintro D ys V hD rfl ⟨hbv, hfv, hg⟩ hK
    rw [HS.out] at hfv
    have hDb : b ≠ D := Nat.ne_of_lt (Nat.lt_of_lt_of_le hbB hD)
    have hgd := hfv.1
    have hB := hfv.2.2
    have ha := hF.1.age
    have hcf := hbv.cell
    have hca := blk_age hB
    have hfa := blk_free hB 1
    have hB2 := blk_setAge hB (st.2 + 1)
    have hg2 := set_grown hg (o := 1) (.int .i64 ((st.2 + 1 : Nat) : Int))
    have hK2 := (Below.heap_setCell V ⟨b, 1, none⟩ (.int .i64 ((st.2 + 1 : Nat) : Int)) D (fun e => hDb e.symm)).trans hK
    have hcf2 : (V.setCell ⟨b, 1, none⟩ (.int .i64 ((st.2 + 1 : Nat) : Int))).cell? ⟨w.heap.size, 0, none⟩ = some (.pointer (some ⟨b, 0, none⟩)) := (World.cell?_of_block (w := V) (Below.heap_setCell V ⟨b, 1, none⟩ (.int .i64 ((st.2 + 1 : Nat) : Int)) w.heap.size (fun e => hne e))).trans hcf
    have hca2 := blk_age hB2
    have E : wrap64 ((st.2 : Int) + 1) = ((st.2 + 1 : Nat) : Int) := by unfold wrap64; omega
    have E2 : ((st.2 + 1 : Nat) : Int) = (st.2 : Int) + 1 := by omega
    rw [E2] at hB2 hg2 hK2
    clear E2
    have HB := hide hB2
    have HG := hide hg2
    have HX := hide hgd
    have HL := hide hfv.2.1
    have HW := hide hK2
    clear hB hB2 hg2 hgd hfv hg ha hbv hK2
    by_cases hh : 640 ≤ st.2 + 1
    · have hi : ¬ ((st.2 + 1 : Nat) : Int) < 640 := by omega
      have HH : Hid (halved st = true) := by show halved st = true; simp [halved, hh]
      have HV := hide (halve_any (w := V.setCell ⟨b, 1, none⟩ (.int .i64 ((st.2 : Int) + 1))) (pack_len _) (pack_lt HX.out.le) HB.out)
      have HA := hide (addK_half sd st s.data.toList HH.out hF.1)
      gi_wp2_with (refine ⟨trivial, ?_⟩; gi_at_call 131; refine (callsIn_wide.2 HV.out).mono ?_; rintro e w3 ⟨⟨v, rfl⟩, hB3, hg3⟩)
      have hK3 := (hg3.block D (Array.getElem?_eq_some_iff.1 HW.out).1 (fun e => hDb (Option.some.inj e).symm)).trans HW.out
      have hg4 := gr_new (gr_trans HG.out hg3) (grownBy_putObj' w3 D (.deferred none)) (Nat.le_trans hg0.size hD)
      refine ⟨by simp, .inl ⟨_, _, rfl, run_takeDeferred hK3, ?_⟩⟩
      exact ⟨_, results_tmp rfl _ _ _, by rw [HH.out]; rfl, ⟨good_addK hF.1 _ _, HL.out, blk_keep (by rw [HA.out.1, HA.out.2]; exact hB3) (World.putObj_heap_other hDb)⟩, hg4⟩
    · have hi : ((st.2 + 1 : Nat) : Int) < 640 := by omega
      have HH : Hid (halved st = false) := by show halved st = false; simp [halved, hh]
      have HA := hide (addK_plain sd st s.data.toList HH.out)
      clear hh
      gi_wp2
      have hg4 := gr_new HG.out (grownBy_putObj' _ D (.deferred none)) (Nat.le_trans hg0.size hD)
      refine ⟨by simp, .inl ⟨_, _, rfl, run_takeDeferred HW.out, ?_⟩⟩
      exact ⟨_, results_tmp rfl _ _ _, by rw [HH.out]; rfl, ⟨good_addK hF.1 _ _, HL.out, blk_keep (by rw [HA.out]; exact HB.out) (World.putObj_heap_other hDb)⟩, hg4⟩
  case stop =>
    rintro D c pre V _ _ h _
    exact h.elim

theorem sk_new (sd : Nat) (h : sd < 18446744073709551616) (w : World) : Calls Tryz.prog 50 #[.int .u64 sd] w fun e w' => ∃ b, e = .returned (.pointer (some ⟨b, 0, none⟩)) ∧ w.heap.size ≤ b ∧ Sk0 w' b sd fresh ∧ w.grownBy w' none := by
  refine (sketchNew_any sd w).mono ?_
  rintro e w' ⟨rfl, rfl⟩
  exact ⟨_, rfl, Nat.le_refl _, ⟨good_fresh, h, heap_alloc_new w _⟩, World.grownBy_alloc w _ none⟩
/-- The contracts of package sketch. -/
theorem sketch_lib : SketchLib Sk0 where
  lt := sk_lt
  good := sk_good
  keep := sk_keep
  new := sk_new
  add := sk_add
  count := sk_count
end Go.Proofs.YtkfeafmpaodagaaGreatDoor
