/- The places of a text in package bloom: the sequence that is made, and what it tells, one by one, as long as one goes on: it ranges over hash.Several itself. Conditions: the text takes at most 140737488351232 bytes. -/
import Derived.Test.YtpjmhiokhoplmaaPlacesKit
import Derived.Test.YtpjmhiokhoplmaaBloomF
import Derived.Stop.RegionWithIn
import Derived.Deep.RegionHeld3
namespace Go.Proofs.Ytpjmhiokhoplmaa
open Go.RowKit Go.Shelf
attribute [local go_sem] Oper.semAt_some

set_option maxHeartbeats 1000000 in
theorem placesMk_in (n b : Nat) (s : ByteArray) (w : World) :
    CallsIn Fence.wide n Try.prog 33 #[.pointer (some ⟨b, 0, none⟩), .string s] w fun e w' =>
      e = .returned (.func (.func 42) #[] #[.pointer (some ⟨w.heap.size, 0, none⟩), .pointer (some ⟨w.heap.size + 1, 0, none⟩)]) ∧
      w' = (w.alloc (.cells #[.pointer (some ⟨b, 0, none⟩)] 39)).alloc (.cells #[.string s] 9) := by
  refine callsIn_of_wp Try.func33 rfl trivial ?_ rfl
  simp only [Try.ntmps33, List.size_toArray, List.length_cons, List.length_nil, Nat.reduceAdd, Nat.reduceSub, Array.replicate_succ, Array.replicate_zero, List.push_toArray, List.append_toArray, List.nil_append, List.cons_append]
  gi_wp2
  go_ret
  exact ⟨rfl, rfl⟩

/-- What is told of the k-th place. -/
def plV (sd : Nat) (l : List UInt8) (k : Nat) : Array Value := #[.int .i64 (placeN sd l k : Nat)]
theorem below_place (sd : Nat) (l : List UInt8) (k : Nat) : belowN (sevN sd l k) 512 = ((placeN sd l k : Nat) : Int) := by
  unfold belowN placeN sevN
  rw [if_neg (by decide)]
  omega



set_option maxRecDepth 100000 in
set_option maxHeartbeats 4000000 in
theorem places1_in (l Bf Bs b sd : Nat) (s : ByteArray) (hs : s.size ≤ 140737488351232) (J Jx : List Nat → World → Prop) (W : World) (hJ : OwnFrom W.heap.size J) (hJx : OwnFrom W.heap.size Jx)
    (hY : ∀ pre x V, J pre V → pre.length < 3 → YieldAt Fence.wide (5 - 1) Try.prog l (plV sd s.data.toList x) V fun e V' =>
      Since W.heap.size V V' ∧ ((e = .returned (.bool true) ∧ J (pre ++ [x]) V') ∨ (e = .returned (.bool false) ∧ Jx (pre ++ [x]) V')))
    (cf : W.cell? ⟨Bf, 0, none⟩ = some (.pointer (some ⟨b, 0, none⟩))) (cs : W.cell? ⟨Bs, 0, none⟩ = some (.string s)) (cd : W.cell? ⟨b, 0, none⟩ = some (.int .u64 sd)) (h0 : J [] W) :
    CallsIn Fence.wide 5 Try.prog 42 #[.func (.yield l) #[] #[], .pointer (some ⟨Bf, 0, none⟩), .pointer (some ⟨Bs, 0, none⟩)] W fun e W' => (∃ v, e = .returned v) ∧
      ((∃ ys, ys = List.range 3 ∧ J ys W') ∨ (∃ pre, pre <+: List.range 3 ∧ Jx pre W')) := by
  refine callsIn_of_wp_marks Try.func42 rfl trivial ?_ rfl
  simp only [Try.ntmps42, List.size_toArray, List.length_cons, List.length_nil, Nat.reduceAdd, Nat.reduceSub, Array.replicate_succ, Array.replicate_zero, List.push_toArray, List.append_toArray, List.nil_append, List.cons_append]
  gi_wp2
  obtain ⟨W1, hW1, bg, sz1, _, cl1, own1⟩ := box1 W (.func (.yield l) #[] #[]) 76
  have cf1 := cl1 _ _ cf
  have cs1 := cl1 _ _ cs
  have cd1 := cl1 _ _ cd
  have j1 := own1 hJ h0
  rw [hW1]
  clear hW1 cl1 own1 cf cs cd h0
  refine Code.wpIn_mono (Meets.imp (b := { tmps := #[.func (.yield l) #[] #[], .pointer (some ⟨Bf, 0, none⟩), .pointer (some ⟨Bs, 0, none⟩), .pointer (some ⟨W.heap.size, 0, none⟩), undef, undef, .pointer (some ⟨b, 0, none⟩), .pointer (some ⟨b, 0, none⟩), .pointer (some ⟨b, 0, none⟩), .int .u64 sd, .string s,
      .func (.func 48) #[] #[.pointer (some ⟨W.heap.size + 1 + 1 + 1, 0, none⟩), .pointer (some ⟨W.heap.size + 1, 0, none⟩), .pointer (some ⟨W.heap.size + 1 + 1, 0, none⟩)], undef, undef, undef, undef, undef, undef, undef], defers := [] })
    (v := (((W1.alloc (.cells #[.int .u64 sd] 22)).alloc (.cells #[.string s] 9)).alloc (.cells #[.int .i64 3] 3)).drew) ?rest) ?region
  case region =>
    gi_region_with (refine ⟨trivial, ?_⟩; gi_at_call 43; refine (severalMk_in (5 - 1) sd s 3 _).mono ?_; rintro e w1 ⟨rfl, rfl⟩)
    all_goals exact ⟨rfl, rfl⟩
  obtain ⟨W2, hW2, bd, bs, bm, sz2, bk2, own2⟩ := boxes3 W1 sd s 3
  have bg2 := bk2 bg
  have j2 := own2 hJ j1
  gi_wp2
  rw [hW2]
  clear hW2 bk2 own2 cf1 cs1 cd1 j1 bg
  rw [sz1] at bd bs bm sz2
  refine wpIn_rangeFunc_ownG rfl (by decide) (gf := 48) (lb := #[.pointer (some ⟨W.heap.size + 1 + 1 + 1, 0, none⟩), .pointer (some ⟨W.heap.size + 1, 0, none⟩), .pointer (some ⟨W.heap.size + 1 + 1, 0, none⟩)]) rfl trivial (enters_of Try.func48 (by kernel_rfl) rfl)
    (several_stops (5 - 1) (by decide) _ _ _ sd s hs 3 (by decide) W2 (by omega) (by omega) (by omega) bm.cell bd.cell bs.cell) boxesKept_t (boxesKept_b (by omega) (by omega)) (Below.refl _ _) (fun _ => rfl)
    (fun pre V => J pre V ∧ (Boxed V W.heap.size 76 (.func (.yield l) #[] #[]) ∧ (Boxed V (W.heap.size + 1) 22 (.int .u64 sd) ∧ Boxed V (W.heap.size + 1 + 1) 9 (.string s))))
    (fun c pre V => c = .ret ∧ Jx pre V)
    (OwnFrom.and (own_more hJ (by omega)) (OwnFrom.and (Own.from (boxed_own _ _ (fun _ => _)) _) (OwnFrom.and (Own.from (boxed_own _ _ (fun _ => _)) _) (Own.from (boxed_own _ _ (fun _ => _)) _))))
    (fun c => OwnFrom.and (ownFrom_pure _ _) (own_more hJx (by omega)))
    ⟨j2, bg2, bd, bs⟩ ?a1 ?assign ?body ?done ?stop
  case assign =>
    intro l2 x V K hK
    unfold sevV
    gi_wp2
    exact hK
  case body =>
    rintro l2 pre x V ⟨hj, hg, hd, hss⟩ hlt
    have hcg := hg.cell
    obtain ⟨fn, tmps, assign, body, hy, hR⟩ := yield_depth 2 (hY pre x V.drew (own_drew hJ hj) hlt)
    unfold plV at hy
    have E := hide (below_place sd s.data.toList x)
    have hh : sevN sd s.data.toList x < 18446744073709551616 := of_lt _ _
    generalize sevN sd s.data.toList x = h at *
    have hmix : Try.prog.follows .mixedOrders = true := by kernel_rfl
    have hR2 := hR.mono (R' := fun e V' => ∃ q : Bool, e = .returned (.bool q) ∧ Hid (Since W.heap.size V.drew V' ∧ ((q = true ∧ J (pre ++ [x]) V') ∨ (q = false ∧ Jx (pre ++ [x]) V')))) (by
      rintro e V' ⟨h1, ⟨rfl, h2⟩ | ⟨rfl, h2⟩⟩
      · exact ⟨true, rfl, h1, .inl ⟨rfl, h2⟩⟩
      · exact ⟨false, rfl, h1, .inr ⟨rfl, h2⟩⟩)
    clear hR hY
    gi_wp2
    gi_region_with_o (first
      | (refine ⟨trivial, ?_⟩; gi_at_call 44; refine (CallsIn.inRound l2 (callsIn_wide.2 (below_any h hh 512 (by decide) (by decide) _))).mono ?_; rintro e w' ⟨rfl, rfl⟩; rw [E.out])
      | (refine hR2.mono ?_; rintro e V' ⟨q, rfl, HQ⟩))
    all_goals
      obtain ⟨hsn, hq⟩ := HQ.out
      have hsv := (Since.drew W.heap.size V).trans hsn
      clear hsn hy hR2 HQ
      rcases hq with ⟨rfl, hj'⟩ | ⟨rfl, hj'⟩
      · gi_wp2
        exact ⟨hsv.keeps (by omega), boxesKept_of hd hss (hsv.boxed (by omega) hd) (hsv.boxed (by omega) hss), hj', hsv.boxed (by omega) hg, hsv.boxed (by omega) hd, hsv.boxed (by omega) hss⟩
      · gi_wp2
        exact ⟨hsv.keeps (by omega), rfl, hj'⟩
  case done =>
    rintro D ys V hD rfl ⟨hj, hg, hd, hss⟩ hK
    gi_wp2
    refine ⟨by simp, .inl ⟨_, _, rfl, run_takeDeferred hK, ?_⟩⟩
    exact ⟨_, results_none rfl _ _ _, ⟨_, rfl⟩, .inl ⟨_, rfl, own_put hJ _ hj (by omega) hK rfl⟩⟩
  case stop =>
    rintro D c pre V hD hpre ⟨rfl, hj⟩ hK
    gi_wp2
    refine ⟨by simp, .inl ⟨_, _, rfl, run_takeDeferred hK, ?_⟩⟩
    exact ⟨_, results_none rfl _ _ _, ⟨_, rfl⟩, .inr ⟨_, hpre, own_put hJx _ hj (by omega) hK rfl⟩⟩

theorem places_own (Bf Bs b sd : Nat) (s : ByteArray) (hs : s.size ≤ 140737488351232) (w : World) (cf : w.cell? ⟨Bf, 0, none⟩ = some (.pointer (some ⟨b, 0, none⟩))) (cs : w.cell? ⟨Bs, 0, none⟩ = some (.string s)) (cd : w.cell? ⟨b, 0, none⟩ = some (.int .u64 sd)) :
    SeqOwn Fence.wide 5 Try.prog 42 #[.pointer (some ⟨Bf, 0, none⟩), .pointer (some ⟨Bs, 0, none⟩)] (plV sd s.data.toList) (fun ys => ys = List.range 3) (fun pre => pre <+: List.range 3) 3 w := fun l J Jx W hW hJ hJx hY h0 =>
  places1_in l Bf Bs b sd s hs J Jx W hJ hJx hY ((hW.cell (p := ⟨Bf, 0, none⟩) (block_lt_of_cell cf)).trans cf) ((hW.cell (p := ⟨Bs, 0, none⟩) (block_lt_of_cell cs)).trans cs) ((hW.cell (p := ⟨b, 0, none⟩) (block_lt_of_cell cd)).trans cd) h0
end Go.Proofs.Ytpjmhiokhoplmaa
