/- storeBoth and count of package exec. Conditions: the contracts of package shard; the variables of package num. storeBoth of package exec. Conditions: the contracts of package shard. -/
import Derived.Test.YtkfeafmpaodagaaGreatDoorG50Joined
import Derived.Test.YtkfeafmpaodagaaGreatDoorG48Joined
namespace Go.Proofs.YtkfeafmpaodagaaGreatDoor
set_option linter.unusedVariables false
open Go.RowKit Go.Shelf Go.Sort
variable {Sh : World → Nat → (Nat → Prop) → Nat → Nat → Hs → Prop}

section
variable {L : ShardLib Sh} {w0 w : World} {k b sd n : Nat} {own : Nat → Prop} {st : Hs} {c : Cv} {va : Option Addr} {vc : Nat} {en : En} {i : Iv} {ia : Option Addr} {ic : Nat} {R : Part}
/-- What comes of a reckoning. -/
def countR (sd : Nat) (h : Hs) (c : Cv) (en : En) (i : Iv) : Rv × Hs :=
  match dec i.val with
  | none => (onlyR 8, h)
  | some n => if 20 < i.val.length then (onlyR 8, h) else numberR (putR sd h c.key (showB (reckN c n)) i.fl i.exp en) (reckN c n)
theorem dec_bound {l : List UInt8} {n : Nat} (h : dec l = some n) : n < 18446744073709551616 := by
  unfold dec at h
  split at h
  · cases h
  · split at h
    · rename_i u hu
      cases h
      have := Lib.parseUintB_le hu
      have e : (2 : Nat) ^ 64 - 1 = 18446744073709551615 := by decide
      omega
    · cases h
set_option maxRecDepth 100000 in
set_option maxHeartbeats 8000000 in
theorem count_any (H : Law w0 w ((TnP k b c va vc en i ia ic).and ((shQ L b own sd n st).and R))) (hLd : Laid w0) (hn : n ≤ 4398046511104) (hl : n ≤ 900 ∨ st.slab.bud ≤ 57600) (hen : en.ok) (hc : c.ok) (hi : i.ok) (hv : i.val.length ≤ 3000) (hop : c.op = 10 ∨ c.op = 11) (hrd : Rd w0 R ia ic i.val) :
    Calls Tryz.prog 102 #[.pointer (some ⟨k, 0, none⟩)] w (End0 L w0 b sd (n + 1) R (countR sd st c en i)) := by
  have H0 := H.boxT (.cells (rsC zeroRv none 0) 40)
  have c16 := tu_ival H0.q.1
  change (w.alloc (.cells (rsC zeroRv none 0) 40)).cell? ⟨k, 16, none⟩ = some (.slice ia i.val.length ic) at c16
  have hcv := conv_bs (hrd.right.bs _ H0.right.right)
  rw [strOf_ints] at hcv
  have hdl : (⟨i.val.toArray⟩ : ByteArray).data.toList = i.val := by simp
  have hsz : (⟨i.val.toArray⟩ : ByteArray).size ≤ 140737488351232 := by show i.val.toArray.size ≤ _; simp; omega
  obtain ⟨dV, hdV⟩ : ∃ d, decV i.val = d := ⟨_, rfl⟩
  obtain ⟨dB, hdB⟩ : ∃ d, decB i.val = d := ⟨_, rfl⟩
  have HD : Hid (∀ W, Laid W → Calls Tryz.prog 138 #[.string ⟨i.val.toArray⟩] W fun e w' => e = .returned (.tuple #[.int .u64 dV, .bool dB]) ∧ Below W.heap.size W w') := fun W hW => by
    have h := decimal_any ⟨i.val.toArray⟩ hsz W hW
    rw [hdl, hdV, hdB] at h
    exact h
  obtain ⟨ln, hln⟩ : ∃ ln, i.val.length = ln := ⟨_, rfl⟩
  rw [hln] at c16 hcv hv
  rw [← zero_res] at c16 hcv
  clear hdl hsz H
  have HLN := hide hln
  by_cases hbad : dec i.val = none ∨ 20 < ln
  · have hr : countR sd st c en i = (onlyR 8, st) := by
      unfold countR
      rcases hbad with e | e
      · rw [e]
      · split
        · rfl
        · rw [if_pos (by rw [hln]; exact e)]
    rw [hr]
    have hcase : dB = false ∨ (dB = true ∧ (20 : Int) < (ln : Int)) := by
      rcases hbad with e | e
      · left
        rw [← hdB]
        unfold decB
        rw [e]
        rfl
      · cases dB
        · exact .inl rfl
        · exact .inr ⟨rfl, by omega⟩
    clear hr hbad hdV hdB hln
    rcases hcase with rfl | ⟨rfl, h20⟩
    all_goals
      go_enter Tryz.func102, Tryz.ntmps102
      go_wp2_with (first
        | (go_at_call 138; refine (HD.out _ (hLd.on H0.below)).mono ?_; rintro e w1 ⟨rfl, hb⟩; have H1 := H0.step (below_gr' hb); have d16 := tu_ival H1.q.1; change w1.cell? ⟨k, 16, none⟩ = some (.slice ia i.val.length ic) at d16; rw [HLN.out] at d16; clear hb c16 hcv H0)
        | (go_at_call 52; refine (only_any 8 _).mono ?_; rintro e w5 ⟨rfl, hg⟩; have H6 := (H1.step hg).right.rot; clear hg)
        | (refine wpList_store_row rfl 40 _ _ rfl w.heap.size (rsC (onlyR 8) none 0) rfl rfl _ (rsC zeroRv none 0) H6.q.1 (res_size _ _ _) rfl (res_one _ _ _) ?_; have H7 := H6.rsRow (onlyR 8) none 0))
      exact res_ret rfl H7.q.1 rfl ⟨own, rfl, H7.right.shMono (Nat.le_succ n) (hl.imp Nat.succ_le_succ id)⟩
  · have h20 : (ln : Int) ≤ 20 := by omega
    obtain ⟨x, hx⟩ : ∃ x, dec i.val = some x := by
      cases hd : dec i.val with
      | none => exact absurd (.inl hd) hbad
      | some x => exact ⟨x, rfl⟩
    obtain ⟨y, hy⟩ : ∃ y : Nat, reckN c x = (y : Int) := by
      have h1 : 0 ≤ reckN c x := by
        have := hc.del
        unfold U64 at this
        unfold reckN
        repeat' split
        all_goals omega
      exact Int.eq_ofNat_of_zero_le h1
    have hxb := dec_bound hx
    have hyb : y < 18446744073709551616 := by
      have h1 := hc.del
      unfold U64 at h1
      have h2 : reckN c x < 18446744073709551616 := by
        unfold reckN
        repeat' split
        all_goals omega
      omega
    have hr : countR sd st c en i = numberR (putR sd st c.key (showB (y : Int)) i.fl i.exp en) y := by
      unfold countR
      rw [hx]
      dsimp only
      rw [if_neg (by rw [hln]; omega), hy]
    rw [hr]
    have e1 : dV = (x : Int) := by rw [← hdV]; unfold decV; rw [hx]; rfl
    have e2 : dB = true := by rw [← hdB]; unfold decB; rw [hx]; rfl
    rw [e1, e2] at HD
    clear hr hbad hdV hdB hln e1 e2 hx
    have HY := hide hy
    clear hy
    rcases hop with hop | hop
    · have c1f : IntKind.u64.wrap ((x : Int) + c.del) = (y : Int) := by
        rw [← HY.out]
        unfold reckN
        rw [if_pos hop]
        rfl
      go_enter Tryz.func102, Tryz.ntmps102
      go_upto_region 7 with (go_at_call 138; refine (HD.out _ (hLd.on H0.below)).mono ?_; rintro e w1 ⟨rfl, hb⟩; have H1 := H0.step (below_gr' hb); have d16 := tu_ival H1.q.1; change w1.cell? ⟨k, 16, none⟩ = some (.slice ia i.val.length ic) at d16; rw [HLN.out] at d16; have d1 := tu_op H1.q.1; rw [hop] at d1; have d7 := tu_del H1.q.1; clear hb c16 hcv H0)
      try rw [c1f]
      clear d16 d1 d7
      have d17 := tu_ifl H1.q.1
      have d18 := tu_iexp H1.q.1
      change w1.cell? ⟨k, 17, none⟩ = some (.int .u32 i.fl) at d17
      change w1.cell? ⟨k, 18, none⟩ = some (.int .i64 i.exp) at d18
      have HH := hide H1
      clear H1
      refine region_dtail 12 (by kernel_rfl) (by simp) (by kernel_rfl) ?_
      simp only [List.take_succ_cons, List.take_zero, List.drop_succ_cons, List.drop_zero]
      repeat (quiet_step (fail))
      refine wpQuiet_nil ?_
      intro _ hw'
      obtain ⟨nq, rfl⟩ := hw'
      have H2 := HH.out.drewN nq
      clear HH d17 d18
      generalize w1.drewN nq = w2 at *
      go_wp2_with (first
        | (go_at_call 58; refine (storeNumber_any H2 hLd hn hl hen y hyb i.fl i.exp hc.key hi.exp).mono ?_; rintro e w3 ⟨own3, rfl, H3⟩; have H4 := H3.rot; clear H3 H2)
        | (refine wpList_store_row rfl 40 _ _ rfl w.heap.size (rsC (numberR (putR sd st c.key (showB (y : Int)) i.fl i.exp en) y).1 none 0) rfl rfl _ (rsC zeroRv none 0) H4.q.1 (res_size _ _ _) rfl (res_one _ _ _) ?_; have H5 := H4.rsRow (numberR (putR sd st c.key (showB (y : Int)) i.fl i.exp en) y).1 none 0))
      exact res_ret rfl H5.q.1 rfl ⟨own3, rfl, H5.right⟩
    · have hdl := hc.del
      unfold U64 at hdl
      have c1f : (x : Int) - min (x : Int) c.del = (y : Int) := by
        rw [← HY.out]
        unfold reckN
        rw [if_neg (by rw [hop]; decide)]
        split <;> omega
      go_enter Tryz.func102, Tryz.ntmps102
      go_upto_region 7 with (go_at_call 138; refine (HD.out _ (hLd.on H0.below)).mono ?_; rintro e w1 ⟨rfl, hb⟩; have H1 := H0.step (below_gr' hb); have d16 := tu_ival H1.q.1; change w1.cell? ⟨k, 16, none⟩ = some (.slice ia i.val.length ic) at d16; rw [HLN.out] at d16; have d1 := tu_op H1.q.1; rw [hop] at d1; have d7 := tu_del H1.q.1; clear hb c16 hcv H0)
      try rw [c1f]
      clear d16 d1 d7
      have d17 := tu_ifl H1.q.1
      have d18 := tu_iexp H1.q.1
      change w1.cell? ⟨k, 17, none⟩ = some (.int .u32 i.fl) at d17
      change w1.cell? ⟨k, 18, none⟩ = some (.int .i64 i.exp) at d18
      have HH := hide H1
      clear H1
      refine region_dtail 12 (by kernel_rfl) (by simp) (by kernel_rfl) ?_
      simp only [List.take_succ_cons, List.take_zero, List.drop_succ_cons, List.drop_zero]
      repeat (quiet_step (fail))
      refine wpQuiet_nil ?_
      intro _ hw'
      obtain ⟨nq, rfl⟩ := hw'
      have H2 := HH.out.drewN nq
      clear HH d17 d18
      generalize w1.drewN nq = w2 at *
      go_wp2_with (first
        | (go_at_call 58; refine (storeNumber_any H2 hLd hn hl hen y hyb i.fl i.exp hc.key hi.exp).mono ?_; rintro e w3 ⟨own3, rfl, H3⟩; have H4 := H3.rot; clear H3 H2)
        | (refine wpList_store_row rfl 40 _ _ rfl w.heap.size (rsC (numberR (putR sd st c.key (showB (y : Int)) i.fl i.exp en) y).1 none 0) rfl rfl _ (rsC zeroRv none 0) H4.q.1 (res_size _ _ _) rfl (res_one _ _ _) ?_; have H5 := H4.rsRow (numberR (putR sd st c.key (showB (y : Int)) i.fl i.exp en) y).1 none 0))
      exact res_ret rfl H5.q.1 rfl ⟨own3, rfl, H5.right⟩
end
end Go.Proofs.YtkfeafmpaodagaaGreatDoor

namespace Go.Proofs.YtkfeafmpaodagaaGreatDoor
set_option linter.unusedVariables false
open Go.RowKit Go.Shelf Go.Sort
variable {Sh : World → Nat → (Nat → Prop) → Nat → Nat → Hs → Prop}

section
variable {L : ShardLib Sh} {w0 w : World} {k b sd n : Nat} {own : Nat → Prop} {st : Hs} {c : Cv} {va : Option Addr} {vc : Nat} {en : En} {i : Iv} {ia : Option Addr} {ic : Nat} {R : Part}
theorem set_farB {g j : Nat} (h : g ≠ j) : ∀ (vs : List Value) (o : Nat) (W : World) (x : Nat), (W.setCells g o vs).cell? ⟨j, x, none⟩ = W.cell? ⟨j, x, none⟩
  | [], _, _, _ => rfl
  | v :: vs, o, W, x => (set_farB h vs (o + 1) _ x).trans (World.cell?_setCell_far W _ _ v h)
/-- What comes of two values. -/
def bothR (sd : Nat) (h : Hs) (key : ByteArray) (u v : List UInt8) (i : Iv) (en : En) : Rv × Hs := if 1000 < u.length + v.length then (onlyR 9, h) else putR sd h key (u ++ v) i.fl i.exp en
abbrev SB (k : Nat) (i : Iv) (w : World) : Prop := w.cell? ⟨k, 17, none⟩ = some (.int .u32 i.fl) ∧ w.cell? ⟨k, 18, none⟩ = some (.int .i64 i.exp)
theorem sb_of {t : TypeId} (h : w.heap[k]? = some (.cells (tuC b c va vc en (itOf i ia ic)) t (0, 0))) : SB k i w := ⟨tu_at h 17 _ rfl, tu_at h 18 _ rfl⟩
theorem sb_same {t : TypeId} {j : Iv} {ja : Option Addr} {jc : Nat} {v : List UInt8} {a' : Option Addr} {c' : Nat} {key : ByteArray} {p : Prop} (h : w.heap[k]? = some (.cells (tuC b c va vc en (itOf j ja jc)) t (0, 0))) (h1 : p → j = newI key v i.fl i.exp en ∧ ja = a' ∧ jc = c') (h2 : ¬ p → j = i ∧ ja = ia ∧ jc = ic) : SB k i w := by
  by_cases hp : p
  · obtain ⟨rfl, -, -⟩ := h1 hp
    exact sb_of (i := newI key v i.fl i.exp en) h
  · obtain ⟨rfl, -, -⟩ := h2 hp
    exact sb_of h
set_option maxRecDepth 100000 in
set_option maxHeartbeats 8000000 in
theorem storeBoth_any (H : Law w0 w ((TnP k b c va vc en i ia ic).and ((shQ L b own sd n st).and R))) (hn : n ≤ 4398046511104) (hl : n ≤ 900 ∨ st.slab.bud ≤ 57600) (hen : en.ok) (hc : c.ok) (hi : i.ok) {u v : List UInt8} {ua xa : Option Addr} {uc xc : Nat} (hu : Rd w0 R ua uc u) (hv : Rd w0 R xa xc v) (hul : u.length ≤ 140737488351232) (hvl : v.length ≤ 140737488351232) :
    Calls Tryz.prog 101 #[.pointer (some ⟨k, 0, none⟩), .slice ua u.length uc, .slice xa v.length xc] w (End0 L w0 b sd (n + 1) R (bothR sd st c.key u v i en)) := by
  have H0 := H.boxT (.cells (rsC zeroRv none 0) 40)
  obtain ⟨p, hp⟩ : ∃ p, u.length = p := ⟨_, rfl⟩
  obtain ⟨q, hq⟩ : ∃ q, v.length = q := ⟨_, rfl⟩
  have e1 : wrap64 ((p : Int) + (q : Int)) = (p : Int) + (q : Int) := by rw [hp] at hul; rw [hq] at hvl; unfold wrap64; omega
  by_cases h9 : 1000 < u.length + v.length
  · have hr : bothR sd st c.key u v i en = (onlyR 9, st) := if_pos h9
    rw [hr]
    have h9i : (1000 : Int) < (p : Int) + (q : Int) := by omega
    rw [hp, hq]
    clear hr H
    go_enter Tryz.func101, Tryz.ntmps101
    go_wp2_with (first
      | (go_at_call 52; refine (only_any 9 _).mono ?_; rintro e w5 ⟨rfl, hg⟩; have H6 := (H0.step hg).right.rot; clear hg)
      | (refine wpList_store_row rfl 40 _ _ rfl w.heap.size (rsC (onlyR 9) none 0) rfl rfl _ (rsC zeroRv none 0) H6.q.1 (res_size _ _ _) rfl (res_one _ _ _) ?_; have H7 := H6.rsRow (onlyR 9) none 0))
    exact res_ret rfl H7.q.1 rfl ⟨own, rfl, H7.right.shMono (Nat.le_succ n) (hl.imp Nat.succ_le_succ id)⟩
  · have hr : bothR sd st c.key u v i en = putR sd st c.key (u ++ v) i.fl i.exp en := if_neg h9
    rw [hr]
    obtain ⟨r, hpr⟩ : ∃ r, putR sd st c.key (u ++ v) i.fl i.exp en = r := ⟨_, rfl⟩
    rw [hpr]
    have HPR := hide hpr
    have h9i : ¬ ((1000 : Int) < (p : Int) + (q : Int)) := by omega
    have hlen : u.length + v.length ≤ 50000 := by omega
    have hvb : (u ++ v).length ≤ 140737488351232 := by
      rw [List.length_append]
      have : (1000 : Nat) ≤ 140737488351232 := by decide
      omega
    have HU := hide hp
    have HV := hide hq
    have HUV : Hid ((u ++ v).length = p + q) := by show (u ++ v).length = _; rw [List.length_append, hp, hq]
    rw [hp, hq]
    clear hr H hpr h9
    go_enter Tryz.func101, Tryz.ntmps101
    go_upto_region 3 with fail
    rw [zero_res]
    generalize w.alloc (.cells (rsC zeroRv none 0) 40) = W at *
    have HW := hide H0
    have q1 := hide (sb_of H0.drew.q.1)
    clear H0 hul hvl e1 h9i
    have HB := hide (HW.out.box (.cells #[.slice ua p uc, .slice xa q xc] 30)).drew
    have HT : Hid (Two (W.alloc (.cells #[.slice ua p uc, .slice xa q xc] 30)).drew W.heap.size ua xa uc xc u v) := by
      have h1 : (W.alloc (.cells #[.slice ua p uc, .slice xa q xc] 30)).drew.heap[W.heap.size]? = some (.cells #[.slice ua p uc, .slice xa q xc] 30 (0, 0)) := HB.out.q.1
      exact ⟨by rw [HU.out]; unfold World.cell?; rw [h1]; rfl, by rw [HV.out]; unfold World.cell?; rw [h1]; rfl, hu.bs _ HB.out.right.right.right.right, hv.bs _ HB.out.right.right.right.right, (Array.getElem?_eq_some_iff.1 h1).1⟩
    refine wp_region_held_drew (S := SB k i) (by kernel_rfl) q1.out (fun hHeld => ?_)
    refine wpAnyH_take (i := 0) (v := (.pointer (some ⟨k, 0, none⟩))) rfl (by kernel_rfl) (by kernel_rfl) (by kernel_rfl) (fun _ _ _ h => h) (Or.inl ⟨by rfl, ?_⟩) hHeld ?_
    · intro w hSw
      try dsimp only at hSw
      go_simp
    simp only [Act.put]
    refine wpAnyH_take (i := 1) (v := (.slice ua p uc)) rfl (by kernel_rfl) (by kernel_rfl) (by kernel_rfl) (fun _ _ _ h => h) (Or.inl ⟨by rfl, ?_⟩) hHeld ?_
    · intro w hSw
      try dsimp only at hSw
      go_simp
    simp only [Act.put]
    refine wpAnyH_take (i := 2) (v := (.slice xa q xc)) rfl (by kernel_rfl) (by kernel_rfl) (by kernel_rfl) (fun _ _ _ h => h) (Or.inl ⟨by rfl, ?_⟩) hHeld ?_
    · intro w hSw
      try dsimp only at hSw
      go_simp
    simp only [Act.put]
    refine wpAnyH_take (i := 5) (v := (.pointer (some ⟨k, 0, none⟩))) rfl (by kernel_rfl) (by kernel_rfl) (by kernel_rfl) (fun _ _ _ h => h) (Or.inl ⟨by rfl, ?_⟩) hHeld ?_
    · intro w hSw
      try dsimp only at hSw
      go_simp
    simp only [Act.put]
    refine wpAnyH_take (i := 6) (v := (.pointer (some ⟨k, 0, none⟩))) rfl (by kernel_rfl) (by kernel_rfl) (by kernel_rfl) (fun _ _ _ h => h) (Or.inl ⟨by rfl, ?_⟩) hHeld ?_
    · intro w hSw
      try dsimp only at hSw
      go_simp
    simp only [Act.put]
    refine wpAnyH_take (i := 7) (v := (.pointer (some ⟨k, 15, none⟩))) rfl (by kernel_rfl) (by kernel_rfl) (by kernel_rfl) (fun _ _ _ h => h) (Or.inl ⟨by rfl, ?_⟩) hHeld ?_
    · intro w hSw
      try dsimp only at hSw
      go_simp
    simp only [Act.put]
    refine wpAnyH_take (i := 8) (v := (.pointer (some ⟨k, 17, none⟩))) rfl (by kernel_rfl) (by kernel_rfl) (by kernel_rfl) (fun _ _ _ h => h) (Or.inl ⟨by rfl, ?_⟩) hHeld ?_
    · intro w hSw
      try dsimp only at hSw
      go_simp
    simp only [Act.put]
    refine wpAnyH_take (i := 9) (v := (.int .u32 i.fl)) rfl (by kernel_rfl) (by kernel_rfl) (by kernel_rfl) (fun _ _ _ h => h) (Or.inl ⟨by rfl, ?_⟩) hHeld ?_
    · intro w hSw
      try dsimp only at hSw
      go_simp
    simp only [Act.put]
    refine wpAnyH_take (i := 10) (v := (.pointer (some ⟨k, 0, none⟩))) rfl (by kernel_rfl) (by kernel_rfl) (by kernel_rfl) (fun _ _ _ h => h) (Or.inl ⟨by rfl, ?_⟩) hHeld ?_
    · intro w hSw
      try dsimp only at hSw
      go_simp
    simp only [Act.put]
    refine wpAnyH_take (i := 11) (v := (.pointer (some ⟨k, 0, none⟩))) rfl (by kernel_rfl) (by kernel_rfl) (by kernel_rfl) (fun _ _ _ h => h) (Or.inl ⟨by rfl, ?_⟩) hHeld ?_
    · intro w hSw
      try dsimp only at hSw
      go_simp
    simp only [Act.put]
    refine wpAnyH_take (i := 12) (v := (.pointer (some ⟨k, 15, none⟩))) rfl (by kernel_rfl) (by kernel_rfl) (by kernel_rfl) (fun _ _ _ h => h) (Or.inl ⟨by rfl, ?_⟩) hHeld ?_
    · intro w hSw
      try dsimp only at hSw
      go_simp
    simp only [Act.put]
    refine wpAnyH_take (i := 13) (v := (.pointer (some ⟨k, 18, none⟩))) rfl (by kernel_rfl) (by kernel_rfl) (by kernel_rfl) (fun _ _ _ h => h) (Or.inl ⟨by rfl, ?_⟩) hHeld ?_
    · intro w hSw
      try dsimp only at hSw
      go_simp
    simp only [Act.put]
    refine wpAnyH_take (i := 14) (v := (.int .i64 i.exp)) rfl (by kernel_rfl) (by kernel_rfl) (by kernel_rfl) (fun _ _ _ h => h) (Or.inl ⟨by rfl, ?_⟩) hHeld ?_
    · intro w hSw
      try dsimp only at hSw
      go_simp
    simp only [Act.put]
    refine wpAnyH_ready (rs := [3]) (by kernel_rfl) (by simp) ?_
    refine AllReadyH.cons rfl (fun K hK => ?_) AllReadyH.nil
    go_simp
    refine hK.out _ _ (sb_of (HW.out.alloc _).drew.q.1) (fun hHeld => ?_)
    clear hK K
    refine wpAnyH_ready (rs := [4]) (by kernel_rfl) (by simp) ?_
    refine AllReadyH.cons rfl (fun K hK => ?_) AllReadyH.nil
    go_simp
    go_wp2_with (go_at_call 137; refine (bcat_any HT.out hlen).mono ?_; rintro e w4 ⟨v4, rfl, hown, hg⟩; obtain ⟨a4, c4, rfl⟩ := own_shape hown; have H4 := (((HB.out.new (A := valP _ a4 c4 (u ++ v)) hg hown (fun j hj => ⟨(own_at hown hj).1, (own_at hown hj).2.1⟩)).drop2).rot.rin); have q4 := hide (sb_of H4.q.1); clear hown hg)
    refine hK.out _ _ q4.out (fun hHeld => ?_)
    clear hK K
    have hsa := store_any H4 hn hl hen (u ++ v) a4 c4 i.fl i.exp hc.key hvb hi.exp (Rd.left Rd.val)
    rw [HPR.out, HUV.out] at hsa
    have HSA := hide hsa
    clear hsa
    refine wpAnyH_ready (rs := [15]) (by kernel_rfl) (by simp) ?_
    refine AllReadyH.cons rfl (fun K hK => ?_) AllReadyH.nil
    go_simp
    go_wp2_with (go_at_call 94; refine HSA.out.mono ?_; rintro e w5 ⟨rfl, own5, j5, ja5, jc5, H5, h5⟩; have q5 := hide (sb_same H5.q.1 h5.1 h5.2); have H6 := H5.right.drop2.rot; clear h5)
    refine hK.out _ _ q5.out (fun hHeld => ?_)
    clear hK K HSA H4 q4
    have ht : w5.there w.heap.size 0 9 := fun j hj => ⟨by unfold World.cell?; rw [H6.q.1]; match j, hj with | 0, _ | 1, _ | 2, _ | 3, _ | 4, _ | 5, _ | 6, _ | 7, _ | 8, _ => rfl, frozen_of_row _ _ _ _ _ H6.q.1⟩
    have H7 := Law.setL H6 0 (rsC r.1 none 0).toList
    rw [show setL (rsC zeroRv none 0) 0 (rsC r.1 none 0).toList = rsC r.1 none 0 by simp [setL, rsC]] at H7
    have q6 : SB k i (w5.setCells w.heap.size 0 (rsC r.1 none 0).toList) := by
      have hne : w.heap.size ≠ k := fun e => by
        have h8 := H5.q.2.2 k rfl
        exact h8 (.inr (.inr (.inl e.symm)))
      exact ⟨(set_farB hne _ _ _ _).trans q5.out.1, (set_farB hne _ _ _ _).trans q5.out.2⟩
    refine wpAnyH_ready (rs := [16]) (by kernel_rfl) (by simp) ?_
    refine AllReadyH.cons rfl (fun K hK => ?_) AllReadyH.nil
    rw [if_pos (by rfl)]
    refine wp_store_mid _ _ _ rfl w.heap.size 0 (rsC r.1 none 0) rfl rfl ht (res_size _ _ _) (res_one _ _ _) ?_
    refine hK.out _ _ q6 (fun hHeld => ?_)
    clear hK K
    refine wpAnyH_done (by kernel_rfl) ?_ _
    clear q5 q6 ht H5 H6
    generalize w5.setCells w.heap.size 0 (rsC r.1 none 0).toList = w6 at *
    go_wp2
    exact res_ret rfl H7.q.1 rfl ⟨own5, rfl, H7.right⟩
end
end Go.Proofs.YtkfeafmpaodagaaGreatDoor
