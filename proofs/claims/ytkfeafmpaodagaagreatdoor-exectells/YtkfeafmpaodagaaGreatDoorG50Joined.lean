/- store of package exec, and what is told of it. Conditions: the contracts of package shard. storeTold, storeNumber, makeWon, see and makeStale of package exec. Conditions: the contracts of package shard; the variables of package num. storeNumber, makeWon, see and makeStale of package exec. Conditions: the contracts of package shard; the variables of package num. see and makeStale of package exec. Conditions: the contracts of package shard. -/
import Derived.Test.YtkfeafmpaodagaaGreatDoorG49Joined
import Derived.Test.YtkfeafmpaodagaaGreatDoorG46Joined
import Derived.Test.YtkfeafmpaodagaaGreatDoorG02Joined
import Derived.Test.YtkfeafmpaodagaaGreatDoorG48Joined
namespace Go.Proofs.YtkfeafmpaodagaaGreatDoor
set_option linter.unusedVariables false
open Go.RowKit Go.Shelf Go.Sort
variable {Sh : World → Nat → (Nat → Prop) → Nat → Nat → Hs → Prop}

section
variable {L : ShardLib Sh} {w0 w : World} {k b sd n : Nat} {own : Nat → Prop} {st : Hs} {c : Cv} {va : Option Addr} {vc : Nat} {en : En} {i : Iv} {ia : Option Addr} {ic : Nat} {R : Part}
/-- Behind a store: the result, and the turn's item where it was done. -/
def StEnd (L : ShardLib Sh) (w0 : World) (k b : Nat) (c : Cv) (va : Option Addr) (vc : Nat) (en : En) (sd n : Nat) (R : Part) (a' : Option Addr) (c' : Nat) (nw : Iv) (i : Iv) (ia : Option Addr) (ic : Nat) (r : Rv × Hs) (e : Ending) (w' : World) : Prop :=
  e = .returned (.agg (rsC r.1 none 0)) ∧ ∃ own' j ja jc, Law w0 w' ((TnP k b c va vc en j ja jc).and ((shQ L b own' sd (n + 1) r.2).and R)) ∧ (r.1.s = 2 → j = nw ∧ ja = a' ∧ jc = c') ∧ (r.1.s ≠ 2 → j = i ∧ ja = ia ∧ jc = ic)
abbrev SK (k : Nat) (c : Cv) (en : En) (w : World) : Prop := w.cell? ⟨k, 2, none⟩ = some (.string c.key) ∧ w.cell? ⟨k, 11, none⟩ = some (.int .i64 en.now) ∧ w.cell? ⟨k, 12, none⟩ = some (.int .u64 en.seq)
theorem sk_of {x : It} {t : TypeId} (h : w.heap[k]? = some (.cells (tuC b c va vc en x) t (0, 0))) : SK k c en w := ⟨tu_key h, tu_now h, tu_seq h⟩
theorem Law.tuItem (H : Law w0 w ((TnP k b c va vc en i ia ic).and R)) (j : Iv) (ja : Option Addr) (jc : Nat) : Law w0 (w.setCells k 15 (itC (itOf j ja jc)).toList) ((TnP k b c va vc en j ja jc).and R) := by
  have h := Law.setL H 15 (itC (itOf j ja jc)).toList
  rwa [tu_set] at h
set_option maxRecDepth 100000 in
set_option maxHeartbeats 4000000 in
theorem store_any (H : Law w0 w ((TnP k b c va vc en i ia ic).and ((shQ L b own sd n st).and R))) (hn : n ≤ 4398046511104) (hl : n ≤ 900 ∨ st.slab.bud ≤ 57600) (hen : en.ok) (v : List UInt8) (a' : Option Addr) (c' : Nat) (fl exp : Int) (hk : c.key.size ≤ 140737488351232) (hv : v.length ≤ 140737488351232) (he : I64 exp) (hrd : Rd w0 R a' c' v) :
    Calls Tryz.prog 94 #[.pointer (some ⟨k, 0, none⟩), .slice a' v.length c', .int .u32 fl, .int .i64 exp] w (StEnd L w0 k b c va vc en sd n R a' c' (newI c.key v fl exp en) i ia ic (putR sd st c.key v fl exp en)) := by
  obtain ⟨x, hx⟩ : ∃ x, (storeH sd st (newI c.key v fl exp en) en).1 = x := ⟨_, rfl⟩
  obtain ⟨T, hT⟩ : ∃ T, (storeH sd st (newI c.key v fl exp en) en).2 = T := ⟨_, rfl⟩
  have hr : putR sd st c.key v fl exp en = (stR x (nextU en.seq), T) := by unfold putR; rw [hx, hT]
  rw [hr]
  have HX := hide hx
  have HT := hide hT
  have hi : (newI c.key v fl exp en).ok := ⟨hk, hv, he, hen.now, hen.seq⟩
  clear hr hx hT
  have H0 := (H.box (.cells (rsC zeroRv none 0) 40)).rot
  have q2 := tu_key H0.q.1
  have q11 := tu_now H0.q.1
  have q12 := tu_seq H0.q.1
  clear H
  go_enter Tryz.func94, Tryz.ntmps94
  go_upto_region 1 with fail
  generalize hW : w.alloc (.cells (rsC zeroRv none 0) 40) = W at *
  have hzr : w.alloc (.cells #[.int .i64 0, .slice none 0 0, .int .u32 0, .int .u64 0, .int .i64 0, .int .u64 0, .bool false, .bool false, .bool false] 40) = W := hW
  rw [hzr]
  clear hzr
  have HW := hide H0
  have HN := hide (newCAS_any (w := W.drew) H0.drew.q.1 hen)
  have HN2 := hide (fun o => newCAS_any (w := (W.alloc o).drew) (H0.alloc o).drew.q.1 hen)
  have q1 := hide (sk_of H0.drew.q.1)
  clear H0 q2 q11 q12
  go_region_held (SK k c en) (first | exact q1.out | exact sk_of (HW.out.alloc _).drew.q.1) ((go_at_call 134; (first | (refine HN.out.mono ?_) | (refine (HN2.out _).mono ?_)); rintro e w1 ⟨rfl, rfl⟩))
  all_goals
    have H2 := (HW.out.box (.cells (itC (itOf (newI c.key v fl exp en) a' c')) 75)).drew
    have hX : (W.alloc (.cells (itC (itOf (newI c.key v fl exp en) a' c')) 75)).drew = (W.alloc (.cells #[.string c.key, .slice a' v.length c', .int .u32 fl, .int .i64 exp, .int .u64 (nextU en.seq), .int .i64 en.now, .int .u64 en.seq, .bool false, .bool false, .bool false] 75)).drew := rfl
    rw [← hX]
    clear hX HN HN2 q1 HW
    obtain ⟨G, hG⟩ : ∃ G, W.heap.size = G := ⟨_, rfl⟩
    generalize (W.alloc (.cells (itC (itOf (newI c.key v fl exp en) a' c')) 75)).drew = X at *
    rw [hG] at H2 ⊢
    clear hG
    have p0 := tu_s H2.rot.q.1
    have p11 := tu_now H2.rot.q.1
    have p12 := tu_seq H2.rot.q.1
    have p13 : X.cell? ⟨k, 13, none⟩ = some (.int .i64 en.flush) := tu_at H2.rot.q.1 13 _ rfl
    have p14 : X.cell? ⟨k, 14, none⟩ = some (.int .u64 en.fseq) := tu_at H2.rot.q.1 14 _ rfl
    obtain ⟨g0, g1, g2, g3, g4, g5, g6, g7, g8, g9⟩ := it_cells H2.q.1
    unfold itOf newI at g0 g1 g2 g3 g4 g5 g6 g7 g8 g9
    dsimp only at g0 g1 g2 g3 g4 g5 g6 g7 g8 g9
    have HH := hide H2
    clear H2
    go_upto_region 2 with fail
    refine region_dtail 9 (by kernel_rfl) (by simp) (by kernel_rfl) ?_
    simp only [List.take_succ_cons, List.take_zero, List.drop_succ_cons, List.drop_zero]
    repeat (quiet_step (fail))
    refine wpQuiet_nil ?_
    intro _ hw'
    obtain ⟨nq, rfl⟩ := hw'
    clear p0 p11 p12 p13 p14 g0 g1 g2 g3 g4 g5 g6 g7 g8 g9
    have N := f_law (law_f (HH.out.drewN nq)).rot4
    clear HH
    generalize X.drewN nq = X2 at *
    by_cases hx0 : x = 0
    · subst hx0
      go_wp2_with (first
        | (go_at_call 135; refine (shStoreB_is L N hn hl (newI c.key v fl exp en) a' c' en hi (N.readR hrd.right.right.right) hen _ _ HX.out HT.out).mono ?_; rintro e w3 ⟨rfl, own3, H3⟩; have H4 := f_law (law_f H3).unrot4; clear N H3; have H5 := H4.rot; have ht := tu_there H5.q.1; have H6 := H5.tuItem (newI c.key v fl exp en) a' c')
        | (refine wpList_load_row rfl 75 _ rfl G rfl _ (itC (itOf (newI c.key v fl exp en) a' c')) _ _ H4.q.1 Tryz.underlying75 rfl (item_size _) ?_)
        | (refine wpList_store_mid rfl 75 _ _ rfl k 15 (itC (itOf (newI c.key v fl exp en) a' c')) rfl rfl ht (item_size _) (item_one _) ?_; clear ht H5 H4; generalize w3.setCells k 15 (itC (itOf (newI c.key v fl exp en) a' c')).toList = w4 at *; have c4 : w4.cell? ⟨G, 4, none⟩ = some (.int .u64 (nextU en.seq)) := (it_cells H6.rot.q.1).2.2.2.2.1; have H7 := H6.rin.rot)
        | (refine wpList_store_row rfl 40 _ _ rfl w.heap.size (rsC (stR 0 (nextU en.seq)) none 0) rfl rfl _ (rsC zeroRv none 0) H7.q.1 (res_size _ _ _) rfl (res_one _ _ _) ?_; have H8 := f_law ((law_f H7).setRow (rsC (stR 0 (nextU en.seq)) none 0))))
      exact res_ret rfl H8.q.1 rfl ⟨rfl, own3, newI c.key v fl exp en, a', c', H8.right.drop2, fun _ => ⟨rfl, rfl, rfl⟩, fun h => absurd rfl h⟩
    · have b0 := beq_eq_false_iff_ne.2 hx0
      by_cases hx8 : x = 8
      · subst hx8
        clear b0
        go_wp2_with (first
          | (go_at_call 135; refine (shStoreB_is L N hn hl (newI c.key v fl exp en) a' c' en hi (N.readR hrd.right.right.right) hen _ _ HX.out HT.out).mono ?_; rintro e w3 ⟨rfl, own3, H3⟩; have H4 := f_law (law_f H3).unrot4; clear N H3)
          | (go_at_call 52; refine (only_any 3 _).mono ?_; rintro e w4 ⟨rfl, hg⟩; have H7 := (H4.step hg).rot.rin.rot; clear hg)
          | (refine wpList_store_row rfl 40 _ _ rfl w.heap.size (rsC (onlyR 3) none 0) rfl rfl _ (rsC zeroRv none 0) H7.q.1 (res_size _ _ _) rfl (res_one _ _ _) ?_; have H8 := f_law ((law_f H7).setRow (rsC (onlyR 3) none 0))))
        exact res_ret rfl H8.q.1 rfl ⟨rfl, own3, i, ia, ic, H8.right.drop2, fun h => absurd (show (3 : Int) = 2 from h) (by decide), fun _ => ⟨rfl, rfl, rfl⟩⟩
      · have b8 := beq_eq_false_iff_ne.2 hx8
        have hst : stR x (nextU en.seq) = onlyR 9 := by unfold stR; rw [if_neg hx0, if_neg hx8]
        have HS := hide hst
        clear hx0 hx8 hst
        go_wp2_with (first
          | (go_at_call 135; refine (shStoreB_is L N hn hl (newI c.key v fl exp en) a' c' en hi (N.readR hrd.right.right.right) hen _ _ HX.out HT.out).mono ?_; rintro e w3 ⟨rfl, own3, H3⟩; have H4 := f_law (law_f H3).unrot4; clear N H3)
          | (go_at_call 52; refine (only_any 9 _).mono ?_; rintro e w4 ⟨rfl, hg⟩; have H7 := (H4.step hg).rot.rin.rot; clear hg)
          | (refine wpList_store_row rfl 40 _ _ rfl w.heap.size (rsC (onlyR 9) none 0) rfl rfl _ (rsC zeroRv none 0) H7.q.1 (res_size _ _ _) rfl (res_one _ _ _) ?_; have H8 := f_law ((law_f H7).setRow (rsC (onlyR 9) none 0))))
        refine res_ret rfl H8.q.1 rfl ⟨?_, own3, i, ia, ic, H8.right.drop2, fun h => ?_, fun _ => ⟨rfl, rfl, rfl⟩⟩
        · show Ending.returned (.agg (rsC (onlyR 9) none 0)) = .returned (.agg (rsC (stR x (nextU en.seq)) none 0))
          rw [HS.out]
        · have h' : (stR x (nextU en.seq)).s = 2 := h
          rw [HS.out] at h'
          exact absurd (show (9 : Int) = 2 from h') (by decide)
end
end Go.Proofs.YtkfeafmpaodagaaGreatDoor

namespace Go.Proofs.YtkfeafmpaodagaaGreatDoor
set_option linter.unusedVariables false
open Go.RowKit Go.Shelf Go.Sort
variable {Sh : World → Nat → (Nat → Prop) → Nat → Nat → Hs → Prop}

section
variable {L : ShardLib Sh} {w0 w : World} {k b sd n : Nat} {own : Nat → Prop} {st : Hs} {c : Cv} {va : Option Addr} {vc : Nat} {en : En} {i : Iv} {ia : Option Addr} {ic : Nat} {R : Part}
theorem zero_res (w : World) : w.alloc (.cells #[.int .i64 0, .slice none 0 0, .int .u32 0, .int .u64 0, .int .i64 0, .int .u64 0, .bool false, .bool false, .bool false] 40) = w.alloc (.cells (rsC zeroRv none 0) 40) := rfl
set_option maxRecDepth 100000 in
set_option maxHeartbeats 4000000 in
theorem storeTold_any (H : Law w0 w ((TnP k b c va vc en i ia ic).and ((shQ L b own sd n st).and R))) (hn : n ≤ 4398046511104) (hl : n ≤ 900 ∨ st.slab.bud ≤ 57600) (hen : en.ok) (hc : c.ok) (hrd : Rd w0 R va vc c.val) :
    Calls Tryz.prog 57 #[.pointer (some ⟨k, 0, none⟩)] w (StEnd L w0 k b c va vc en sd n R va vc (newI c.key c.val c.fl (atW c.exp en.now) en) i ia ic (putR sd st c.key c.val c.fl (atW c.exp en.now) en)) := by
  have hx := at_i64e hc.exp hen.now
  have H0 := (H.box (.cells (rsC zeroRv none 0) 40)).rot.rin
  have p3 := tu_val H0.q.1
  have p4 := tu_fl H0.q.1
  clear H
  go_enter Tryz.func57, Tryz.ntmps57
  go_upto_region 1 with fail
  rw [zero_res]
  generalize w.alloc (.cells (rsC zeroRv none 0) 40) = W at *
  have HN := hide (fun m => end_any (w := W.drewN m) (H0.drewN m).q.1)
  have HH := hide H0
  clear H0
  refine region_dtail 13 (by kernel_rfl) (by simp) (by kernel_rfl) ?_
  simp only [List.take_succ_cons, List.take_zero, List.drop_succ_cons, List.drop_zero]
  repeat (quiet_step (exact Calls.quiet_of (HN.out _)))
  refine wpQuiet_nil ?_
  intro _ hw'
  obtain ⟨nq, rfl⟩ := hw'
  have H1 := HH.out.drewN nq
  clear p3 p4 HN HH
  generalize W.drewN nq = X at *
  go_wp2_with (first
    | (go_at_call 94; refine (store_any H1 hn hl hen c.val va vc c.fl (atW c.exp en.now) hc.key hc.val hx hrd.right).mono ?_; rintro e w3 ⟨rfl, own3, j, ja, jc, H3, h3⟩; have H4 := H3.rin.rot; have HE := hide h3; clear h3 H3 H1)
    | (refine wpList_store_row rfl 40 _ _ rfl w.heap.size (rsC (putR sd st c.key c.val c.fl (atW c.exp en.now) en).1 none 0) rfl rfl _ (rsC zeroRv none 0) H4.q.1 (res_size _ _ _) rfl (res_one _ _ _) ?_; have H8 := f_law ((law_f H4).setRow (rsC (putR sd st c.key c.val c.fl (atW c.exp en.now) en).1 none 0))))
  exact res_ret rfl H8.q.1 rfl ⟨rfl, own3, j, ja, jc, H8.right, HE.out⟩
end
end Go.Proofs.YtkfeafmpaodagaaGreatDoor

namespace Go.Proofs.YtkfeafmpaodagaaGreatDoor
set_option linter.unusedVariables false
open Go.RowKit Go.Shelf Go.Sort
variable {Sh : World → Nat → (Nat → Prop) → Nat → Nat → Hs → Prop}

section
variable {L : ShardLib Sh} {w0 w : World} {k b sd n : Nat} {own : Nat → Prop} {st : Hs} {c : Cv} {va : Option Addr} {vc : Nat} {en : En} {i : Iv} {ia : Option Addr} {ic : Nat} {R : Part}
/-- What is answered without a value. -/
def End0 (L : ShardLib Sh) (w0 : World) (b sd n : Nat) (R : Part) (r : Rv × Hs) (e : Ending) (w' : World) : Prop :=
  ∃ own', e = .returned (.agg (rsC r.1 none 0)) ∧ Law w0 w' ((shQ L b own' sd n r.2).and R)
theorem rs_setS (r : Rv) (a : Option Addr) (kk : Nat) (x : Int) : (rsC r a kk).setIfInBounds 0 (.int .i64 x) = rsC { r with s := x } a kk := by simp [rsC]
theorem rs_setNum (r : Rv) (a : Option Addr) (kk : Nat) (x : Int) : (rsC r a kk).setIfInBounds 5 (.int .u64 x) = rsC { r with num := x } a kk := by simp [rsC]
theorem rs_setWon (r : Rv) (a : Option Addr) (kk : Nat) (x : Bool) : (rsC r a kk).setIfInBounds 7 (.bool x) = rsC { r with won := x } a kk := by simp [rsC]
theorem rs_setLost (r : Rv) (a : Option Addr) (kk : Nat) (x : Bool) : (rsC r a kk).setIfInBounds 8 (.bool x) = rsC { r with lost := x } a kk := by simp [rsC]
abbrev ResP (g : Nat) (r : Rv) (a : Option Addr) (kk : Nat) : Part := boxP g (.cells (rsC r a kk) 40)
theorem Law.rsS {g : Nat} {r : Rv} {a : Option Addr} {kk : Nat} (H : Law w0 w ((ResP g r a kk).and R)) (x : Int) : Law w0 (w.setCell ⟨g, 0, none⟩ (.int .i64 x)) ((ResP g { r with s := x } a kk).and R) := by
  have h := H.setAt 0 (.int .i64 x)
  rwa [rs_setS] at h
theorem Law.rsNum {g : Nat} {r : Rv} {a : Option Addr} {kk : Nat} (H : Law w0 w ((ResP g r a kk).and R)) (x : Int) : Law w0 (w.setCell ⟨g, 5, none⟩ (.int .u64 x)) ((ResP g { r with num := x } a kk).and R) := by
  have h := H.setAt 5 (.int .u64 x)
  rwa [rs_setNum] at h
theorem Law.rsWon {g : Nat} {r : Rv} {a : Option Addr} {kk : Nat} (H : Law w0 w ((ResP g r a kk).and R)) (x : Bool) : Law w0 (w.setCell ⟨g, 7, none⟩ (.bool x)) ((ResP g { r with won := x } a kk).and R) := by
  have h := H.setAt 7 (.bool x)
  rwa [rs_setWon] at h
theorem Law.rsLost {g : Nat} {r : Rv} {a : Option Addr} {kk : Nat} (H : Law w0 w ((ResP g r a kk).and R)) (x : Bool) : Law w0 (w.setCell ⟨g, 8, none⟩ (.bool x)) ((ResP g { r with lost := x } a kk).and R) := by
  have h := H.setAt 8 (.bool x)
  rwa [rs_setLost] at h
theorem Law.rsRow {g : Nat} {r : Rv} {a : Option Addr} {kk : Nat} (H : Law w0 w ((ResP g r a kk).and R)) (r' : Rv) (a' : Option Addr) (kk' : Nat) : Law w0 (w.setRow g (rsC r' a' kk')) ((ResP g r' a' kk').and R) := f_law ((law_f H).setRow (rsC r' a' kk'))
theorem Law.rsFree {g : Nat} {r : Rv} {a : Option Addr} {kk : Nat} (H : Law w0 w ((ResP g r a kk).and R)) (j : Nat) : w.frozen? ⟨g, j, none⟩ = false := frozen_of_row _ _ _ _ _ H.q.1
theorem number_is (r : Rv × Hs) (x : Int) (h : r.1.s = 2) : numberR r x = ({ r.1 with s := 7, num := x }, r.2) := if_pos h
theorem number_not (r : Rv × Hs) (x : Int) (h : r.1.s ≠ 2) : numberR r x = r := if_neg h
set_option maxRecDepth 100000 in
set_option maxHeartbeats 4000000 in
theorem storeNumber_any (H : Law w0 w ((TnP k b c va vc en i ia ic).and ((shQ L b own sd n st).and R))) (hLd : Laid w0) (hn : n ≤ 4398046511104) (hl : n ≤ 900 ∨ st.slab.bud ≤ 57600) (hen : en.ok) (x : Nat) (hx : x < 18446744073709551616) (fl exp : Int) (hk : c.key.size ≤ 140737488351232) (he : I64 exp) :
    Calls Tryz.prog 58 #[.pointer (some ⟨k, 0, none⟩), .int .u64 (x : Int), .int .u32 fl, .int .i64 exp] w (End0 L w0 b sd (n + 1) R (numberR (putR sd st c.key (showB (x : Int)) fl exp en) x)) := by
  have H0 := (H.box (.cells (rsC zeroRv none 0) 40)).rot.rin
  have hsl : (showB (x : Int)).length ≤ 140737488351232 := Nat.le_trans (digits_len x hx) (by decide)
  have hsb : showB (x : Int) = Lib.decDigits x := rfl
  obtain ⟨p, hp⟩ : ∃ p, putR sd st c.key (showB (x : Int)) fl exp en = p := ⟨_, rfl⟩
  rw [hp]
  have HP := hide hp
  have HSB := hide hsb
  clear H hp hsb
  by_cases hs : p.1.s = 2
  · rw [number_is p x hs]
    have hsb2 : (p.1.s == 2) = true := by rw [hs]; rfl
    clear hs
    go_enter Tryz.func58, Tryz.ntmps58
    go_wp2_with (first
      | (go_at_call 95; refine (show_nat x hx _ (hLd.on H0.below)).mono ?_; rintro e w1 ⟨rfl, hb⟩; have H1 := H0.step (below_gr' hb); obtain ⟨C, o, hcv, hB⟩ := bytes_law (Lib.decDigits x) w1; have H2 := (H1.drew.box o).rot.rin; have hrd := Rd.box (w0 := w0) rfl hB; clear hb H0 H1)
      | (go_at_call 94; refine (store_any H2 hn hl hen (showB (x : Int)) _ _ fl exp hk hsl he hrd.left).mono ?_; rw [HP.out]; rintro e w3 ⟨rfl, own3, j, ja, jc, H3, h3⟩; have H4 := (H3.box (.cells (rsC p.1 none 0) 40)); clear h3 H3 H2 hcv)
      | (refine wpList_store_row rfl 40 _ _ rfl w3.heap.size (rsC p.1 none 0) rfl rfl _ (rsC zeroRv none 0) (World.alloc_heap_new w3 _) (res_size _ _ _) rfl (res_one _ _ _) ?_; rw [setRow_alloc]; generalize w3.alloc (.cells (rsC p.1 none 0) 40) = w4 at *; have c0 := (res_cells H4.q.1).1; have c5 := (res_cells H4.q.1).2.2.2.2.2.1; have f0 := H4.rsFree 0; have f5 := H4.rsFree 5; have H5 := (H4.rsS 7).rsNum x)
      | (refine wpList_load_row rfl 40 _ rfl w3.heap.size rfl _ _ _ _ H5.q.1 Tryz.underlying40 rfl (res_size _ _ _) ?_; have H6 := H5.right.right.drop2.rot)
      | (refine wpList_store_row rfl 40 _ _ rfl w.heap.size (rsC { p.1 with s := 7, num := (x : Int) } none 0) rfl rfl _ (rsC zeroRv none 0) H6.q.1 (res_size _ _ _) rfl (res_one _ _ _) ?_; have H7 := H6.rsRow { p.1 with s := 7, num := (x : Int) } none 0))
    exact res_ret rfl H7.q.1 rfl ⟨own3, rfl, H7.right⟩
  · rw [number_not p x hs]
    have hsb2 : (p.1.s == 2) = false := beq_eq_false_iff_ne.2 hs
    clear hs
    go_enter Tryz.func58, Tryz.ntmps58
    go_wp2_with (first
      | (go_at_call 95; refine (show_nat x hx _ (hLd.on H0.below)).mono ?_; rintro e w1 ⟨rfl, hb⟩; have H1 := H0.step (below_gr' hb); obtain ⟨C, o, hcv, hB⟩ := bytes_law (Lib.decDigits x) w1; have H2 := (H1.drew.box o).rot.rin; have hrd := Rd.box (w0 := w0) rfl hB; clear hb H0 H1)
      | (go_at_call 94; refine (store_any H2 hn hl hen (showB (x : Int)) _ _ fl exp hk hsl he hrd.left).mono ?_; rw [HP.out]; rintro e w3 ⟨rfl, own3, j, ja, jc, H3, h3⟩; have H4 := (H3.box (.cells (rsC p.1 none 0) 40)); clear h3 H3 H2 hcv)
      | (refine wpList_store_row rfl 40 _ _ rfl w3.heap.size (rsC p.1 none 0) rfl rfl _ (rsC zeroRv none 0) (World.alloc_heap_new w3 _) (res_size _ _ _) rfl (res_one _ _ _) ?_; rw [setRow_alloc]; generalize w3.alloc (.cells (rsC p.1 none 0) 40) = w4 at *; have c0 := (res_cells H4.q.1).1)
      | (refine wpList_load_row rfl 40 _ rfl w3.heap.size rfl _ _ _ _ H4.q.1 Tryz.underlying40 rfl (res_size _ _ _) ?_; have H6 := H4.right.right.drop2.rot)
      | (refine wpList_store_row rfl 40 _ _ rfl w.heap.size (rsC p.1 none 0) rfl rfl _ (rsC zeroRv none 0) H6.q.1 (res_size _ _ _) rfl (res_one _ _ _) ?_; have H7 := H6.rsRow p.1 none 0))
    exact res_ret rfl H7.q.1 rfl ⟨own3, rfl, H7.right⟩
/-- Behind the making of something empty. -/
def wonR (sd : Nat) (h : Hs) (c : Cv) (en : En) : Rv × Hs :=
  if (storeH sd h (newI c.key [] 0 (atW c.exp en.now) en) en).1 = 0 then
    ({ viewR (newI c.key [] 0 (atW c.exp en.now) en) en with won := true }, updH (storeH sd h (newI c.key [] 0 (atW c.exp en.now) en) en).2 { newI c.key [] 0 (atW c.exp en.now) en with won := true })
  else (onlyR 1, (storeH sd h (newI c.key [] 0 (atW c.exp en.now) en) en).2)
theorem put_two {h : Hs} {key : ByteArray} {v : List UInt8} {fl exp : Int} : (putR sd h key v fl exp en).1.s = 2 ↔ (storeH sd h (newI key v fl exp en) en).1 = 0 := by
  unfold putR stR
  dsimp only
  split
  · rename_i e
    exact ⟨fun _ => e, fun _ => rfl⟩
  · rename_i e
    refine ⟨fun h2 => ?_, fun h2 => absurd h2 e⟩
    split at h2
    · exact absurd (show (3 : Int) = 2 from h2) (by decide)
    · exact absurd (show (9 : Int) = 2 from h2) (by decide)
set_option maxRecDepth 100000 in
set_option maxHeartbeats 4000000 in
theorem makeWon_any (H : Law w0 w ((TnP k b c va vc en i ia ic).and ((shQ L b own sd n st).and R))) (hn : n < 4398046511104) (hl : n ≤ 900 ∨ st.slab.bud ≤ 57600) (hen : en.ok) (hc : c.ok) :
    Calls Tryz.prog 60 #[.pointer (some ⟨k, 0, none⟩)] w (End0 L w0 b sd (n + 1) R (wonR sd st c en)) := by
  have hx := at_i64e hc.exp hen.now
  have H0 := (H.box (.cells (rsC zeroRv none 0) 40)).rot.rin
  obtain ⟨p, hp⟩ : ∃ p, putR sd st c.key [] 0 (atW c.exp en.now) en = p := ⟨_, rfl⟩
  have HP := hide hp
  have hp2 : (storeH sd st (newI c.key [] 0 (atW c.exp en.now) en) en).2 = p.2 := by rw [← hp]; rfl
  have hv0 : ([] : List UInt8).length ≤ 140737488351232 := Nat.zero_le _
  clear H
  by_cases hs : p.1.s = 2
  · have hw : wonR sd st c en = ({ viewR { newI c.key [] 0 (atW c.exp en.now) en with won := true } en with won := true }, updH p.2 { newI c.key [] 0 (atW c.exp en.now) en with won := true }) := by
      unfold wonR
      rw [if_pos (put_two.1 (by rw [hp]; exact hs)), hp2]
      rfl
    rw [hw]
    have hsb2 : (p.1.s != 2) = false := by rw [hs]; rfl
    have HS := hide hs
    have hok : ({ newI c.key [] 0 (atW c.exp en.now) en with won := true } : Iv).ok := ⟨hc.key, Nat.zero_le _, hx, hen.now, hen.seq⟩
    clear hs hw hp hp2
    go_enter Tryz.func60, Tryz.ntmps60
    go_wp2_with (first
      | (go_at_call 59; refine (end_any H0.q.1).mono ?_; rintro e w1 ⟨rfl, m, rfl⟩; have H2 := H0.drewN m; clear H0)
      | (go_at_call 94; refine (store_any H2 (Nat.le_of_lt hn) hl hen [] none 0 0 (atW c.exp en.now) hc.key hv0 hx Rd.nil).mono ?_; rw [HP.out]; rintro e w3 ⟨rfl, own3, j, ja, jc, H3, h3⟩; obtain ⟨rfl, rfl, rfl⟩ := h3.1 HS.out; have H4 := (H3.box (.cells (rsC p.1 none 0) 40)); clear h3 H3 H2)
      | (refine wpList_store_row rfl 40 _ _ rfl w3.heap.size (rsC p.1 none 0) rfl rfl _ (rsC zeroRv none 0) (World.alloc_heap_new w3 _) (res_size _ _ _) rfl (res_one _ _ _) ?_; rw [setRow_alloc]; generalize w3.alloc (.cells (rsC p.1 none 0) 40) = w4 at *; have c0 := (res_cells H4.q.1).1; have H5 := H4.right; clear H4)
      | (go_at_call 62; refine (chWon_any H5 hn rfl hok Rd.nil).mono ?_; rintro e w5 ⟨⟨v5, rfl⟩, own5, H6⟩; clear H5 c0)
      | (go_at_call 64; refine (view_any H6.q.1).mono ?_; rintro e w6 ⟨rfl, hg⟩; have H7 := (H6.step hg).box (.cells (rsC (viewR { newI c.key [] 0 (atW c.exp en.now) en with won := true } en) none 0) 40); clear hg H6)
      | (refine wpList_store_row rfl 40 _ _ rfl w6.heap.size (rsC (viewR { newI c.key [] 0 (atW c.exp en.now) en with won := true } en) none 0) rfl rfl _ (rsC zeroRv none 0) (World.alloc_heap_new w6 _) (res_size _ _ _) rfl (res_one _ _ _) ?_; rw [setRow_alloc]; generalize w6.alloc (.cells (rsC (viewR { newI c.key [] 0 (atW c.exp en.now) en with won := true } en) none 0) 40) = w7 at *; have c7 := (res_cells H7.q.1).2.2.2.2.2.2.2.1; have f7 := H7.rsFree 7; have H8 := H7.rsWon true)
      | (refine wpList_load_row rfl 40 _ rfl w6.heap.size rfl _ _ _ _ H8.q.1 Tryz.underlying40 rfl (res_size _ _ _) ?_; have H9 := H8.right.right.rot)
      | (refine wpList_store_row rfl 40 _ _ rfl w.heap.size (rsC { viewR { newI c.key [] 0 (atW c.exp en.now) en with won := true } en with won := true } none 0) rfl rfl _ (rsC zeroRv none 0) H9.q.1 (res_size _ _ _) rfl (res_one _ _ _) ?_; have H10 := H9.rsRow { viewR { newI c.key [] 0 (atW c.exp en.now) en with won := true } en with won := true } none 0))
    exact res_ret rfl H10.q.1 rfl ⟨own5, rfl, H10.right⟩
  · have hw : wonR sd st c en = (onlyR 1, p.2) := by
      unfold wonR
      rw [if_neg (fun h => hs (by rw [← hp]; exact put_two.2 h)), hp2]
    rw [hw]
    have hsb2 : (p.1.s != 2) = true := by simpa using hs
    clear hs hw hp hp2
    go_enter Tryz.func60, Tryz.ntmps60
    go_wp2_with (first
      | (go_at_call 59; refine (end_any H0.q.1).mono ?_; rintro e w1 ⟨rfl, m, rfl⟩; have H2 := H0.drewN m; clear H0)
      | (go_at_call 94; refine (store_any H2 (Nat.le_of_lt hn) hl hen [] none 0 0 (atW c.exp en.now) hc.key hv0 hx Rd.nil).mono ?_; rw [HP.out]; rintro e w3 ⟨rfl, own3, j, ja, jc, H3, h3⟩; have H4 := (H3.box (.cells (rsC p.1 none 0) 40)); clear h3 H3 H2)
      | (refine wpList_store_row rfl 40 _ _ rfl w3.heap.size (rsC p.1 none 0) rfl rfl _ (rsC zeroRv none 0) (World.alloc_heap_new w3 _) (res_size _ _ _) rfl (res_one _ _ _) ?_; rw [setRow_alloc]; generalize w3.alloc (.cells (rsC p.1 none 0) 40) = w4 at *; have c0 := (res_cells H4.q.1).1)
      | (go_at_call 52; refine (only_any 1 _).mono ?_; rintro e w5 ⟨rfl, hg⟩; have H6 := (H4.step hg).right.right.rot; clear hg)
      | (refine wpList_store_row rfl 40 _ _ rfl w.heap.size (rsC (onlyR 1) none 0) rfl rfl _ (rsC zeroRv none 0) H6.q.1 (res_size _ _ _) rfl (res_one _ _ _) ?_; have H7 := H6.rsRow (onlyR 1) none 0))
    exact res_ret rfl H7.q.1 rfl ⟨own3, rfl, H7.right⟩
end
end Go.Proofs.YtkfeafmpaodagaaGreatDoor

namespace Go.Proofs.YtkfeafmpaodagaaGreatDoor
set_option linter.unusedVariables false
open Go.RowKit Go.Shelf Go.Sort
variable {Sh : World → Nat → (Nat → Prop) → Nat → Nat → Hs → Prop}

section
variable {L : ShardLib Sh} {w0 w : World} {k b sd n : Nat} {own : Nat → Prop} {st : Hs} {c : Cv} {va : Option Addr} {vc : Nat} {en : En} {i : Iv} {ia : Option Addr} {ic : Nat} {R : Part}
theorem boxF1 {g : Nat} {v : Value} {t : TypeId} (h : w.heap[g]? = some (.cells #[v] t (0, 0))) : w.cell? ⟨g, 0, none⟩ = some v := by simp [World.cell?, h]
theorem Law.boxT (H : Law w0 w ((TnP k b c va vc en i ia ic).and ((shQ L b own sd n st).and R))) (o : Obj) : Law w0 (w.alloc o) ((TnP k b c va vc en i ia ic).and ((shQ L b own sd n st).and ((boxP w.heap.size o).and R))) := (H.box o).rot.rin
set_option maxRecDepth 100000 in
set_option maxHeartbeats 4000000 in
theorem makeStale_any (H : Law w0 w ((TnP k b c va vc en i ia ic).and ((shQ L b own sd n st).and R))) (hn : n ≤ 4398046511104) (hen : en.ok) {j : Iv} (hj : { i with st := true, won := false, cas := nextU en.seq, exp := if c.sets then atW c.exp en.now else i.exp } = j) (hok : j.ok) (hrd : Rd w0 R ia ic j.val) :
    Calls Tryz.prog 103 #[.pointer (some ⟨k, 0, none⟩)] w fun e w' => (∃ v, e = .returned v) ∧ ∃ own', Law w0 w' ((shQ L b own' sd n (updH st j)).and R) := by
  have H0 := H.boxT (.cells #[.pointer (some ⟨k, 0, none⟩)] 79)
  have hkt : BoxIn w0 ((shQ L b own sd n st).and ((boxP w.heap.size (.cells #[.pointer (some ⟨k, 0, none⟩)] 79)).and R)) w.heap.size (.pointer (some ⟨k, 0, none⟩)) := fun W HW => boxF1 HW.right.left.q
  have k1 := hkt _ H0.right
  clear H
  go_enter Tryz.func103, Tryz.ntmps103
  go_wp2_with (go_at_call 62; refine (chStale_any H0 hn hen hkt hj hok hrd.right).mono ?_; rintro e w5 ⟨⟨v5, rfl⟩, own5, H6⟩)
  go_end0
  exact ⟨⟨_, rfl⟩, own5, H6.right.drop2⟩
theorem see_view (x y : Bool) : viewR (seeI c en i x y) en = viewR (metaI c en i) en := rfl
set_option maxRecDepth 100000 in
set_option maxHeartbeats 8000000 in
theorem see_any (H : Law w0 w ((TnP k b c va vc en i ia ic).and ((shQ L b own sd n st).and ((valP 0 ia ic i.val).and R)))) (hn : n ≤ 4398046511104) (hen : en.ok) (hc : c.ok) (hi : i.ok) :
    Calls Tryz.prog 65 #[.pointer (some ⟨k, 0, none⟩)] w (Ends L w0 b sd n R ({ viewR (metaI c en i) en with lost := i.won, won := !i.won && i.st }, updH st { metaI c en i with won := i.won || i.st })) := by
  have hx := at_i64e hc.exp hen.now
  obtain ⟨lost, hlost⟩ : ∃ q, i.won = q := ⟨_, rfl⟩
  obtain ⟨won, hwon⟩ : ∃ q, (i.st && !i.won) = q := ⟨_, rfl⟩
  have hj : seeI c en i won lost = { metaI c en i with won := i.won || i.st } := by
    rw [← hwon, ← hlost]
    unfold seeI metaI
    cases i.won <;> cases i.st <;> rfl
  have hr : ({ viewR (metaI c en i) en with lost := i.won, won := !i.won && i.st } : Rv) = { viewR (seeI c en i won lost) en with lost := lost, won := won } := by
    rw [see_view, ← hwon, ← hlost]
    cases i.won <;> cases i.st <;> rfl
  rw [hr, ← hj]
  have hok : (seeI c en i won lost).ok := ⟨hi.key, hi.val, by unfold seeI; dsimp only; split; exact hx; exact hi.exp, hi.sec, hi.seq⟩
  have H1 := (H.boxT (.cells #[.pointer (some ⟨k, 0, none⟩)] 79)).boxT (.cells (rsC zeroRv none 0) 40)
  rw [World.size_alloc] at H1
  have c23 := tu_iwon H1.q.1
  have k1 : ((w.alloc (.cells #[.pointer (some ⟨k, 0, none⟩)] 79)).alloc (.cells (rsC zeroRv none 0) 40)).cell? ⟨w.heap.size, 0, none⟩ = some (.pointer (some ⟨k, 0, none⟩)) := boxF1 H1.q.2.1.2.1.2.1.1
  change ((w.alloc (.cells #[.pointer (some ⟨k, 0, none⟩)] 79)).alloc (.cells (rsC zeroRv none 0) 40)).cell? ⟨k, 23, none⟩ = some (.bool i.won) at c23
  rw [hlost] at c23
  clear H hr hj
  go_enter Tryz.func65, Tryz.ntmps65
  go_upto_region 1 with fail
  rw [zero_res]
  generalize (w.alloc (.cells #[.pointer (some ⟨k, 0, none⟩)] 79)).alloc (.cells (rsC zeroRv none 0) 40) = W at *
  have H2 := H1.boxT (.cells #[.bool lost] 4)
  have c22 := tu_ist H2.q.1
  change (W.alloc (.cells #[.bool lost] 4)).cell? ⟨k, 22, none⟩ = some (.bool i.st) at c22
  have k2 : (W.alloc (.cells #[.bool lost] 4)).cell? ⟨w.heap.size, 0, none⟩ = some (.pointer (some ⟨k, 0, none⟩)) := boxF1 H2.q.2.1.2.1.2.1.2.1.1
  have k3 : (W.alloc (.cells #[.bool lost] 4)).cell? ⟨W.heap.size, 0, none⟩ = some (.bool lost) := boxF1 H2.q.2.1.2.1.1
  go_upto_region 2 with fail
  generalize W.alloc (.cells #[.bool lost] 4) = W2 at *
  have H3 := H2.boxT (.cells #[.bool won] 4)
  have k4 : (W2.alloc (.cells #[.bool won] 4)).cell? ⟨w.heap.size, 0, none⟩ = some (.pointer (some ⟨k, 0, none⟩)) := boxF1 H3.q.2.1.2.1.2.1.2.1.2.1.1
  have HH := hide H3
  have hw2 : (i.st = true ∧ won = !lost) ∨ (i.st = false ∧ won = false) := by
    rw [← hwon, ← hlost]
    cases i.st <;> simp
  clear H1 H2 H3 k1 c23 hwon hlost
  have goal : ∀ (P : Prop), (won = !lost → i.st = true → P) → (won = false → i.st = false → P) → P := fun P h1 h2 => hw2.elim (fun h => h1 h.2 h.1) fun h => h2 h.2 h.1
  refine goal _ (fun e1 e2 => ?_) (fun e1 e2 => ?_)
  all_goals
    rw [e2] at c22
    clear e2 goal hw2
    have hW3 := congrArg (fun q => W2.alloc (.cells #[.bool q] 4)) e1
    clear e1
    go_upto_region 3 with fail
    rw [← hW3]
    clear hW3
    generalize W2.alloc (.cells #[.bool won] 4) = W3 at *
    clear c22 k2 k3
    have H4 := HH.out
    clear HH
    have hkt : BoxIn w0 ((shQ L b own sd n st).and ((boxP W2.heap.size (.cells #[.bool won] 4)).and ((boxP W.heap.size (.cells #[.bool lost] 4)).and ((boxP (w.heap.size + 1) (.cells (rsC zeroRv none 0) 40)).and ((boxP w.heap.size (.cells #[.pointer (some ⟨k, 0, none⟩)] 79)).and ((valP 0 ia ic i.val).and R)))))) w.heap.size (.pointer (some ⟨k, 0, none⟩)) := fun W HW => boxF1 HW.right.right.right.right.left.q
    have hkw : BoxIn w0 ((shQ L b own sd n st).and ((boxP W2.heap.size (.cells #[.bool won] 4)).and ((boxP W.heap.size (.cells #[.bool lost] 4)).and ((boxP (w.heap.size + 1) (.cells (rsC zeroRv none 0) 40)).and ((boxP w.heap.size (.cells #[.pointer (some ⟨k, 0, none⟩)] 79)).and ((valP 0 ia ic i.val).and R)))))) W2.heap.size (.bool won) := fun W HW => boxF1 HW.right.left.q
    have hkl : BoxIn w0 ((shQ L b own sd n st).and ((boxP W2.heap.size (.cells #[.bool won] 4)).and ((boxP W.heap.size (.cells #[.bool lost] 4)).and ((boxP (w.heap.size + 1) (.cells (rsC zeroRv none 0) 40)).and ((boxP w.heap.size (.cells #[.pointer (some ⟨k, 0, none⟩)] 79)).and ((valP 0 ia ic i.val).and R)))))) W.heap.size (.bool lost) := fun W HW => boxF1 HW.right.right.left.q
    go_upto_region 5 with (first
      | (go_at_call 62; refine (chSee_any H4 hn hkt hkw hkl rfl hok (Rd.right (Rd.right (Rd.right (Rd.right (Rd.left Rd.val)))))).mono ?_; rintro e w5 ⟨⟨v5, rfl⟩, own5, H6⟩; clear H4 k4 hkt hkw hkl; have k5 : w5.cell? ⟨w.heap.size, 0, none⟩ = some (.pointer (some ⟨k, 0, none⟩)) := boxF1 H6.right.right.right.right.right.left.q)
      | (go_at_call 64; refine (view_any H6.q.1).mono ?_; rintro e w6 ⟨rfl, hg⟩; have H7 := (H6.step hg).right.box (.cells (rsC (viewR (seeI c en i won lost) en) ia ic) 40); clear hg H6 k5)
      | (refine wpList_store_row rfl 40 _ _ rfl w6.heap.size (rsC (viewR (seeI c en i won lost) en) ia ic) rfl rfl _ (rsC zeroRv none 0) (World.alloc_heap_new w6 _) (res_size _ _ _) rfl (res_one _ _ _) ?_; rw [setRow_alloc]; generalize w6.alloc (.cells (rsC (viewR (seeI c en i won lost) en) ia ic) 40) = w7 at *))
    have H8 := H7.rsWon won
    have HG := hide (H8.rsLost lost).drew
    have S0 : Hid (w7.drew.cell? ⟨W2.heap.size, 0, none⟩ = some (.bool won) ∧ w7.drew.cell? ⟨W.heap.size, 0, none⟩ = some (.bool lost)) := ⟨boxF1 H7.drew.right.right.left.q, boxF1 H7.drew.right.right.right.left.q⟩
    have S1 : Hid ((w7.setCell ⟨w6.heap.size, 7, none⟩ (.bool won)).drew.cell? ⟨W2.heap.size, 0, none⟩ = some (.bool won) ∧ (w7.setCell ⟨w6.heap.size, 7, none⟩ (.bool won)).drew.cell? ⟨W.heap.size, 0, none⟩ = some (.bool lost)) := ⟨boxF1 H8.drew.right.right.left.q, boxF1 H8.drew.right.right.right.left.q⟩
    have S2 : Hid (((w7.setCell ⟨w6.heap.size, 7, none⟩ (.bool won)).setCell ⟨w6.heap.size, 8, none⟩ (.bool lost)).drew.cell? ⟨W2.heap.size, 0, none⟩ = some (.bool won) ∧ ((w7.setCell ⟨w6.heap.size, 7, none⟩ (.bool won)).setCell ⟨w6.heap.size, 8, none⟩ (.bool lost)).drew.cell? ⟨W.heap.size, 0, none⟩ = some (.bool lost)) := ⟨boxF1 HG.out.right.right.left.q, boxF1 HG.out.right.right.right.left.q⟩
    obtain ⟨-, -, -, -, -, -, -, c7, c8⟩ := res_cells H7.q.1
    have f7 := H7.rsFree 7
    have f8 := H7.rsFree 8
    clear H7 H8
    go_region_held (fun w' => w'.cell? ⟨W2.heap.size, 0, none⟩ = some (.bool won) ∧ w'.cell? ⟨W.heap.size, 0, none⟩ = some (.bool lost)) (first | exact S0.out | exact S1.out | exact S2.out) (fail)
    all_goals
      have H9 := HG.out
      clear HG S0 S1 S2 c7 c8 f7 f8
      generalize ((w7.setCell ⟨w6.heap.size, 7, none⟩ (.bool won)).setCell ⟨w6.heap.size, 8, none⟩ (.bool lost)).drew = w8 at *
      go_wp2_with (first
        | (refine wpList_load_row rfl 40 _ rfl w6.heap.size rfl _ _ _ _ H9.q.1 Tryz.underlying40 rfl (res_size _ _ _) ?_; have H10 := H9.right.drop2.drop2.rot; clear H9)
        | (refine wpList_store_row rfl 40 _ _ rfl (w.heap.size + 1) (rsC { viewR (seeI c en i won lost) en with won := won, lost := lost } ia ic) rfl rfl _ (rsC zeroRv none 0) H10.q.1 (res_size _ _ _) rfl (res_one _ _ _) ?_; have H11 := H10.rsRow { viewR (seeI c en i won lost) en with won := won, lost := lost } ia ic))
      exact res_ret rfl H11.q.1 rfl ⟨ia, ic, own5, rfl, H11.right.drop2⟩
end
end Go.Proofs.YtkfeafmpaodagaaGreatDoor
