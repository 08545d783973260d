/- onThatOne of package exec. Conditions: the contracts of package shard; the variables of package num. onIt of package exec. Conditions: the contracts of package shard; the variables of package num. onIt of package exec, whole. Conditions: the contracts of package shard; the variables of package num. onNothing of package exec. Conditions: the contracts of package shard; the variables of package num. Do of package exec. Conditions: the contracts of package shard; the variables of package num. -/
import Derived.Test.YtkfeafmpaodagaaGreatDoorG51Joined
namespace Go.Proofs.YtkfeafmpaodagaaGreatDoor
set_option linter.unusedVariables false
open Go.RowKit Go.Shelf Go.Sort
variable {Sh : World → Nat → (Nat → Prop) → Nat → Nat → Hs → Prop}

section
variable {L : ShardLib Sh} {w0 w : World} {k b sd n : Nat} {own : Nat → Prop} {st : Hs} {c : Cv} {va : Option Addr} {vc : Nat} {en : En} {i : Iv} {ia : Option Addr} {ic : Nat} {R : Part}
/-- What is done with the item that is meant. -/
def thatR (sd : Nat) (h : Hs) (c : Cv) (en : En) (i : Iv) : Rv × Hs :=
  if c.op = 3 ∨ c.op = 5 then putR sd h c.key c.val c.fl (atW c.exp en.now) en
  else if c.op = 6 then bothR sd h c.key i.val c.val i en
  else if c.op = 7 then bothR sd h c.key c.val i.val i en
  else if c.op = 8 then (onlyR 5, removeH h c.key)
  else if c.op = 9 then (onlyR 5, updH h (staleI c en i))
  else countR sd h c en i
theorem remove_budE (st : Hs) (k : ByteArray) : (removeH st k).slab.bud = st.slab.bud := by
  unfold removeH
  split
  · rfl
  · exact free_bud _ _
theorem upd_budE (st : Hs) (i : Iv) : (updH st i).slab.bud = st.slab.bud := by
  unfold updH
  split
  · rfl
  · split <;> rfl
set_option maxRecDepth 100000 in
set_option maxHeartbeats 8000000 in
theorem thatS3_any (H : Law w0 w ((TnP k b c va vc en i ia ic).and ((shQ L b own sd n st).and ((valP 0 ia ic i.val).and R)))) (hLd : Laid w0) (hn : n ≤ 4398046511104) (hl : n ≤ 900 ∨ st.slab.bud ≤ 57600) (hen : en.ok) (hc : c.ok) (hi : i.ok) (hv : i.val.length ≤ 3000) (hrd : Rd w0 R va vc c.val) (hop : c.op = 3) : Calls Tryz.prog 66 #[.pointer (some ⟨k, 0, none⟩)] w (End0 L w0 b sd (n + 1) R (thatR sd st c en i)) := by
  have hr : thatR sd st c en i = (putR sd st c.key c.val c.fl (atW c.exp en.now) en) := by unfold thatR; rw [hop]; rfl
  have H0 := H.boxT (.cells (rsC zeroRv none 0) 40)
  have d1 := tu_op H0.q.1
  rw [hop, ← zero_res] at d1
  rw [hr]
  clear H hr
  have HOP := hide hop
  clear hop
  go_enter Tryz.func66, Tryz.ntmps66
  go_wp2_with (first
    | (go_at_call 57; refine (storeTold_any H0 hn hl hen hc hrd.right.right).mono ?_; rintro e w3 ⟨rfl, own3, j3, ja3, jc3, H3, h3⟩; have H4 := H3.right.rot; clear h3 H3 H0)
    | (refine wpList_store_row rfl 40 _ _ rfl w.heap.size (rsC (putR sd st c.key c.val c.fl (atW c.exp en.now) en).1 none 0) rfl rfl _ (rsC zeroRv none 0) H4.q.1 (res_size _ _ _) rfl (res_one _ _ _) ?_; have H8 := H4.rsRow (putR sd st c.key c.val c.fl (atW c.exp en.now) en).1 none 0))
  exact res_ret rfl H8.q.1 rfl ⟨own3, rfl, H8.right.drop2⟩
set_option maxRecDepth 100000 in
set_option maxHeartbeats 8000000 in
theorem thatS5_any (H : Law w0 w ((TnP k b c va vc en i ia ic).and ((shQ L b own sd n st).and ((valP 0 ia ic i.val).and R)))) (hLd : Laid w0) (hn : n ≤ 4398046511104) (hl : n ≤ 900 ∨ st.slab.bud ≤ 57600) (hen : en.ok) (hc : c.ok) (hi : i.ok) (hv : i.val.length ≤ 3000) (hrd : Rd w0 R va vc c.val) (hop : c.op = 5) : Calls Tryz.prog 66 #[.pointer (some ⟨k, 0, none⟩)] w (End0 L w0 b sd (n + 1) R (thatR sd st c en i)) := by
  have hr : thatR sd st c en i = (putR sd st c.key c.val c.fl (atW c.exp en.now) en) := by unfold thatR; rw [hop]; rfl
  have H0 := H.boxT (.cells (rsC zeroRv none 0) 40)
  have d1 := tu_op H0.q.1
  rw [hop, ← zero_res] at d1
  rw [hr]
  clear H hr
  have HOP := hide hop
  clear hop
  go_enter Tryz.func66, Tryz.ntmps66
  go_wp2_with (first
    | (go_at_call 57; refine (storeTold_any H0 hn hl hen hc hrd.right.right).mono ?_; rintro e w3 ⟨rfl, own3, j3, ja3, jc3, H3, h3⟩; have H4 := H3.right.rot; clear h3 H3 H0)
    | (refine wpList_store_row rfl 40 _ _ rfl w.heap.size (rsC (putR sd st c.key c.val c.fl (atW c.exp en.now) en).1 none 0) rfl rfl _ (rsC zeroRv none 0) H4.q.1 (res_size _ _ _) rfl (res_one _ _ _) ?_; have H8 := H4.rsRow (putR sd st c.key c.val c.fl (atW c.exp en.now) en).1 none 0))
  exact res_ret rfl H8.q.1 rfl ⟨own3, rfl, H8.right.drop2⟩
set_option maxRecDepth 100000 in
set_option maxHeartbeats 8000000 in
theorem thatJ6_any (H : Law w0 w ((TnP k b c va vc en i ia ic).and ((shQ L b own sd n st).and ((valP 0 ia ic i.val).and R)))) (hLd : Laid w0) (hn : n ≤ 4398046511104) (hl : n ≤ 900 ∨ st.slab.bud ≤ 57600) (hen : en.ok) (hc : c.ok) (hi : i.ok) (hv : i.val.length ≤ 3000) (hrd : Rd w0 R va vc c.val) (hop : c.op = 6) : Calls Tryz.prog 66 #[.pointer (some ⟨k, 0, none⟩)] w (End0 L w0 b sd (n + 1) R (thatR sd st c en i)) := by
  have hr : thatR sd st c en i = (bothR sd st c.key i.val c.val i en) := by unfold thatR; rw [hop]; rfl
  have H0 := H.boxT (.cells (rsC zeroRv none 0) 40)
  have d1 := tu_op H0.q.1
  rw [hop, ← zero_res] at d1
  rw [hr]
  clear H hr
  have HOP := hide hop
  clear hop
  go_enter Tryz.func66, Tryz.ntmps66
  go_upto_region 6 with fail
  rw [zero_res]
  generalize w.alloc (.cells (rsC zeroRv none 0) 40) = W at *
  have p3 := tu_val H0.q.1
  have p16 := tu_ival H0.q.1
  change W.cell? ⟨k, 16, none⟩ = some (.slice ia i.val.length ic) at p16
  have HH := hide H0
  clear H0 d1
  refine region_dtail 11 (by kernel_rfl) (by simp) (by kernel_rfl) ?_
  simp only [List.take_succ_cons, List.take_zero, List.drop_succ_cons, List.drop_zero]
  repeat (quiet_step (fail))
  refine wpQuiet_nil ?_
  intro _ hw'
  obtain ⟨nq, rfl⟩ := hw'
  have H1 := HH.out.drewN nq
  clear HH p3 p16
  generalize W.drewN nq = X at *
  go_wp2_with (first
    | (go_at_call 101; refine (storeBoth_any H1 hn hl hen hc hi (Rd.right (Rd.left Rd.val)) hrd.right.right hi.val hc.val).mono ?_; rintro e w3 ⟨own3, rfl, H3⟩; have H4 := H3.rot; clear H3 H1)
    | (refine wpList_store_row rfl 40 _ _ rfl w.heap.size (rsC (bothR sd st c.key i.val c.val i en).1 none 0) rfl rfl _ (rsC zeroRv none 0) H4.q.1 (res_size _ _ _) rfl (res_one _ _ _) ?_; have H8 := H4.rsRow (bothR sd st c.key i.val c.val i en).1 none 0))
  exact res_ret rfl H8.q.1 rfl ⟨own3, rfl, H8.right.drop2⟩
set_option maxRecDepth 100000 in
set_option maxHeartbeats 8000000 in
theorem thatJ7_any (H : Law w0 w ((TnP k b c va vc en i ia ic).and ((shQ L b own sd n st).and ((valP 0 ia ic i.val).and R)))) (hLd : Laid w0) (hn : n ≤ 4398046511104) (hl : n ≤ 900 ∨ st.slab.bud ≤ 57600) (hen : en.ok) (hc : c.ok) (hi : i.ok) (hv : i.val.length ≤ 3000) (hrd : Rd w0 R va vc c.val) (hop : c.op = 7) : Calls Tryz.prog 66 #[.pointer (some ⟨k, 0, none⟩)] w (End0 L w0 b sd (n + 1) R (thatR sd st c en i)) := by
  have hr : thatR sd st c en i = (bothR sd st c.key c.val i.val i en) := by unfold thatR; rw [hop]; rfl
  have H0 := H.boxT (.cells (rsC zeroRv none 0) 40)
  have d1 := tu_op H0.q.1
  rw [hop, ← zero_res] at d1
  rw [hr]
  clear H hr
  have HOP := hide hop
  clear hop
  go_enter Tryz.func66, Tryz.ntmps66
  go_upto_region 8 with fail
  rw [zero_res]
  generalize w.alloc (.cells (rsC zeroRv none 0) 40) = W at *
  have p3 := tu_val H0.q.1
  have p16 := tu_ival H0.q.1
  change W.cell? ⟨k, 16, none⟩ = some (.slice ia i.val.length ic) at p16
  have HH := hide H0
  clear H0 d1
  refine region_dtail 11 (by kernel_rfl) (by simp) (by kernel_rfl) ?_
  simp only [List.take_succ_cons, List.take_zero, List.drop_succ_cons, List.drop_zero]
  repeat (quiet_step (fail))
  refine wpQuiet_nil ?_
  intro _ hw'
  obtain ⟨nq, rfl⟩ := hw'
  have H1 := HH.out.drewN nq
  clear HH p3 p16
  generalize W.drewN nq = X at *
  go_wp2_with (first
    | (go_at_call 101; refine (storeBoth_any H1 hn hl hen hc hi hrd.right.right (Rd.right (Rd.left Rd.val)) hc.val hi.val).mono ?_; rintro e w3 ⟨own3, rfl, H3⟩; have H4 := H3.rot; clear H3 H1)
    | (refine wpList_store_row rfl 40 _ _ rfl w.heap.size (rsC (bothR sd st c.key c.val i.val i en).1 none 0) rfl rfl _ (rsC zeroRv none 0) H4.q.1 (res_size _ _ _) rfl (res_one _ _ _) ?_; have H8 := H4.rsRow (bothR sd st c.key c.val i.val i en).1 none 0))
  exact res_ret rfl H8.q.1 rfl ⟨own3, rfl, H8.right.drop2⟩
set_option maxRecDepth 100000 in
set_option maxHeartbeats 8000000 in
theorem thatD8_any (H : Law w0 w ((TnP k b c va vc en i ia ic).and ((shQ L b own sd n st).and ((valP 0 ia ic i.val).and R)))) (hLd : Laid w0) (hn : n ≤ 4398046511104) (hl : n ≤ 900 ∨ st.slab.bud ≤ 57600) (hen : en.ok) (hc : c.ok) (hi : i.ok) (hv : i.val.length ≤ 3000) (hrd : Rd w0 R va vc c.val) (hop : c.op = 8) : Calls Tryz.prog 66 #[.pointer (some ⟨k, 0, none⟩)] w (End0 L w0 b sd (n + 1) R (thatR sd st c en i)) := by
  have hr : thatR sd st c en i = (onlyR 5, removeH st c.key) := by unfold thatR; rw [hop]; rfl
  have H0 := H.boxT (.cells (rsC zeroRv none 0) 40)
  have d1 := tu_op H0.q.1
  rw [hop, ← zero_res] at d1
  rw [hr]
  clear H hr
  have HOP := hide hop
  clear hop
  go_enter Tryz.func66, Tryz.ntmps66
  go_upto_region 15 with fail
  rw [zero_res]
  generalize w.alloc (.cells (rsC zeroRv none 0) 40) = W at *
  have p0 := tu_s H0.q.1
  have p2 := tu_key H0.q.1
  have HH := hide H0
  clear H0 d1
  refine region_dtail 9 (by kernel_rfl) (by simp) (by kernel_rfl) ?_
  simp only [List.take_succ_cons, List.take_zero, List.drop_succ_cons, List.drop_zero]
  repeat (quiet_step (fail))
  refine wpQuiet_nil ?_
  intro _ hw'
  obtain ⟨nq, rfl⟩ := hw'
  have H1 := HH.out.drewN nq
  clear HH p0 p2
  generalize W.drewN nq = X at *
  have H2 := H1.right
  clear H1
  go_wp2_with (first
    | (go_at_call 104; refine (shRemove_is L H2 hn c.key hc.key _ rfl).mono ?_; rintro e w3 ⟨rfl, own3, H3⟩; clear H2)
    | (go_at_call 52; refine (only_any 5 _).mono ?_; rintro e w5 ⟨rfl, hg⟩; have H4 := (H3.step hg).rot; clear hg H3)
    | (refine wpList_store_row rfl 40 _ _ rfl w.heap.size (rsC (onlyR 5) none 0) rfl rfl _ (rsC zeroRv none 0) H4.q.1 (res_size _ _ _) rfl (res_one _ _ _) ?_; have H8 := H4.rsRow (onlyR 5) none 0))
  exact res_ret rfl H8.q.1 rfl ⟨own3, rfl, H8.right.drop2.shMono (Nat.le_succ n) (by show n + 1 ≤ 901 ∨ (removeH st c.key).slab.bud ≤ 57600; rw [remove_budE]; exact hl.imp Nat.succ_le_succ id)⟩
set_option maxRecDepth 100000 in
set_option maxHeartbeats 8000000 in
theorem thatT9_any (H : Law w0 w ((TnP k b c va vc en i ia ic).and ((shQ L b own sd n st).and ((valP 0 ia ic i.val).and R)))) (hLd : Laid w0) (hn : n ≤ 4398046511104) (hl : n ≤ 900 ∨ st.slab.bud ≤ 57600) (hen : en.ok) (hc : c.ok) (hi : i.ok) (hv : i.val.length ≤ 3000) (hrd : Rd w0 R va vc c.val) (hop : c.op = 9) : Calls Tryz.prog 66 #[.pointer (some ⟨k, 0, none⟩)] w (End0 L w0 b sd (n + 1) R (thatR sd st c en i)) := by
  have hr : thatR sd st c en i = (onlyR 5, updH st (staleI c en i)) := by unfold thatR; rw [hop]; rfl
  have H0 := H.boxT (.cells (rsC zeroRv none 0) 40)
  have d1 := tu_op H0.q.1
  rw [hop, ← zero_res] at d1
  rw [hr]
  clear H hr
  have HOP := hide hop
  clear hop
  have hx := at_i64e hc.exp hen.now
  have hok : (staleI c en i).ok := ⟨hi.key, hi.val, by unfold staleI; dsimp only; split; exact hx; exact hi.exp, hi.sec, hi.seq⟩
  go_enter Tryz.func66, Tryz.ntmps66
  go_wp2_with (first
    | (go_at_call 103; refine (makeStale_any (j := staleI c en i) H0 hn hen rfl hok (Rd.right (Rd.left Rd.val))).mono ?_; rintro e w3 ⟨⟨v3, rfl⟩, own3, H3⟩; clear H0)
    | (go_at_call 52; refine (only_any 5 _).mono ?_; rintro e w5 ⟨rfl, hg⟩; have H4 := (H3.step hg).rot; clear hg H3)
    | (refine wpList_store_row rfl 40 _ _ rfl w.heap.size (rsC (onlyR 5) none 0) rfl rfl _ (rsC zeroRv none 0) H4.q.1 (res_size _ _ _) rfl (res_one _ _ _) ?_; have H8 := H4.rsRow (onlyR 5) none 0))
  exact res_ret rfl H8.q.1 rfl ⟨own3, rfl, H8.right.drop2.shMono (Nat.le_succ n) (by show n + 1 ≤ 901 ∨ (updH st (staleI c en i)).slab.bud ≤ 57600; rw [upd_budE]; exact hl.imp Nat.succ_le_succ id)⟩
set_option maxRecDepth 100000 in
set_option maxHeartbeats 8000000 in
theorem thatN10_any (H : Law w0 w ((TnP k b c va vc en i ia ic).and ((shQ L b own sd n st).and ((valP 0 ia ic i.val).and R)))) (hLd : Laid w0) (hn : n ≤ 4398046511104) (hl : n ≤ 900 ∨ st.slab.bud ≤ 57600) (hen : en.ok) (hc : c.ok) (hi : i.ok) (hv : i.val.length ≤ 3000) (hrd : Rd w0 R va vc c.val) (hop : c.op = 10) : Calls Tryz.prog 66 #[.pointer (some ⟨k, 0, none⟩)] w (End0 L w0 b sd (n + 1) R (thatR sd st c en i)) := by
  have hr : thatR sd st c en i = (countR sd st c en i) := by unfold thatR; rw [hop]; rfl
  have H0 := H.boxT (.cells (rsC zeroRv none 0) 40)
  have d1 := tu_op H0.q.1
  rw [hop, ← zero_res] at d1
  rw [hr]
  clear H hr
  have HOP := hide hop
  clear hop
  go_enter Tryz.func66, Tryz.ntmps66
  go_wp2_with (first
    | (go_at_call 102; refine (count_any H0 hLd hn hl hen hc hi hv (.inl HOP.out) (Rd.right (Rd.left Rd.val))).mono ?_; rintro e w3 ⟨own3, rfl, H3⟩; have H4 := H3.rot; clear H3 H0)
    | (refine wpList_store_row rfl 40 _ _ rfl w.heap.size (rsC (countR sd st c en i).1 none 0) rfl rfl _ (rsC zeroRv none 0) H4.q.1 (res_size _ _ _) rfl (res_one _ _ _) ?_; have H8 := H4.rsRow (countR sd st c en i).1 none 0))
  exact res_ret rfl H8.q.1 rfl ⟨own3, rfl, H8.right.drop2⟩
set_option maxRecDepth 100000 in
set_option maxHeartbeats 8000000 in
theorem thatN11_any (H : Law w0 w ((TnP k b c va vc en i ia ic).and ((shQ L b own sd n st).and ((valP 0 ia ic i.val).and R)))) (hLd : Laid w0) (hn : n ≤ 4398046511104) (hl : n ≤ 900 ∨ st.slab.bud ≤ 57600) (hen : en.ok) (hc : c.ok) (hi : i.ok) (hv : i.val.length ≤ 3000) (hrd : Rd w0 R va vc c.val) (hop : c.op = 11) : Calls Tryz.prog 66 #[.pointer (some ⟨k, 0, none⟩)] w (End0 L w0 b sd (n + 1) R (thatR sd st c en i)) := by
  have hr : thatR sd st c en i = (countR sd st c en i) := by unfold thatR; rw [hop]; rfl
  have H0 := H.boxT (.cells (rsC zeroRv none 0) 40)
  have d1 := tu_op H0.q.1
  rw [hop, ← zero_res] at d1
  rw [hr]
  clear H hr
  have HOP := hide hop
  clear hop
  go_enter Tryz.func66, Tryz.ntmps66
  go_wp2_with (first
    | (go_at_call 102; refine (count_any H0 hLd hn hl hen hc hi hv (.inr HOP.out) (Rd.right (Rd.left Rd.val))).mono ?_; rintro e w3 ⟨own3, rfl, H3⟩; have H4 := H3.rot; clear H3 H0)
    | (refine wpList_store_row rfl 40 _ _ rfl w.heap.size (rsC (countR sd st c en i).1 none 0) rfl rfl _ (rsC zeroRv none 0) H4.q.1 (res_size _ _ _) rfl (res_one _ _ _) ?_; have H8 := H4.rsRow (countR sd st c en i).1 none 0))
  exact res_ret rfl H8.q.1 rfl ⟨own3, rfl, H8.right.drop2⟩
theorem onThatOne_any (H : Law w0 w ((TnP k b c va vc en i ia ic).and ((shQ L b own sd n st).and ((valP 0 ia ic i.val).and R)))) (hLd : Laid w0) (hn : n ≤ 4398046511104) (hl : n ≤ 900 ∨ st.slab.bud ≤ 57600) (hen : en.ok) (hc : c.ok) (hi : i.ok) (hv : i.val.length ≤ 3000) (hrd : Rd w0 R va vc c.val) (hop : c.op = 3 ∨ c.op = 5 ∨ c.op = 6 ∨ c.op = 7 ∨ c.op = 8 ∨ c.op = 9 ∨ c.op = 10 ∨ c.op = 11) : Calls Tryz.prog 66 #[.pointer (some ⟨k, 0, none⟩)] w (End0 L w0 b sd (n + 1) R (thatR sd st c en i)) := by
  rcases hop with h | h | h | h | h | h | h | h
  · exact thatS3_any H hLd hn hl hen hc hi hv hrd h
  · exact thatS5_any H hLd hn hl hen hc hi hv hrd h
  · exact thatJ6_any H hLd hn hl hen hc hi hv hrd h
  · exact thatJ7_any H hLd hn hl hen hc hi hv hrd h
  · exact thatD8_any H hLd hn hl hen hc hi hv hrd h
  · exact thatT9_any H hLd hn hl hen hc hi hv hrd h
  · exact thatN10_any H hLd hn hl hen hc hi hv hrd h
  · exact thatN11_any H hLd hn hl hen hc hi hv hrd h
end
end Go.Proofs.YtkfeafmpaodagaaGreatDoor

namespace Go.Proofs.YtkfeafmpaodagaaGreatDoor
set_option linter.unusedVariables false
open Go.RowKit Go.Shelf Go.Sort
variable {Sh : World → Nat → (Nat → Prop) → Nat → Nat → Hs → Prop}

theorem put_put {a e : Ent} (h : a.1.key = e.1.key) (l : List Ent) : putE e (putE a l) = putE e l := by
  have hlt : ∀ x : Ent, ltK x.1.key e.1.key = true → ltK e.1.key x.1.key = false := fun x hx => ltK_asymm hx
  have hgt : ∀ x : Ent, ltK e.1.key x.1.key = true → ltK x.1.key e.1.key = false := fun x hx => ltK_asymm hx
  have hself : ltK e.1.key e.1.key = false := by
    cases hq : ltK e.1.key e.1.key with
    | false => rfl
    | true => exact absurd rfl (ltK_ne hq)
  have f1 : (putE a l).filter (fun x => ltK x.1.key e.1.key) = l.filter fun x => ltK x.1.key e.1.key := by
    unfold putE
    rw [List.filter_append, List.filter_cons, List.filter_filter, List.filter_filter, h, hself]
    simp only [Bool.and_self, Bool.false_eq_true, if_false]
    have : (l.filter fun x => ltK x.1.key e.1.key && ltK e.1.key x.1.key) = [] := by
      rw [List.filter_eq_nil_iff]
      intro x _ hx
      rw [Bool.and_eq_true] at hx
      rw [hlt x hx.1] at hx
      cases hx.2
    rw [this, List.append_nil]
  have f2 : (putE a l).filter (fun x => ltK e.1.key x.1.key) = l.filter fun x => ltK e.1.key x.1.key := by
    unfold putE
    rw [List.filter_append, List.filter_cons, List.filter_filter, List.filter_filter, h, hself]
    simp only [Bool.and_self, Bool.false_eq_true, if_false]
    have : (l.filter fun x => ltK e.1.key x.1.key && ltK x.1.key e.1.key) = [] := by
      rw [List.filter_eq_nil_iff]
      intro x _ hx
      rw [Bool.and_eq_true] at hx
      rw [hgt x hx.1] at hx
      cases hx.2
    rw [this, List.nil_append]
  show (putE a l).filter (fun x => ltK x.1.key e.1.key) ++ e :: (putE a l).filter (fun x => ltK e.1.key x.1.key) = _
  rw [f1, f2]
  rfl
theorem upd_upd {n : Nat} {h : Hs} (g : GoodH n h) {a e : Iv} (hk : a.key = e.key) (hv : a.val.length = e.val.length) : updH (updH h a) e = updH h e := by
  unfold updH
  cases hf : findE a.key h.ents with
  | none =>
    rw [← hk, hf]
  | some x =>
    dsimp only
    by_cases hl : a.val.length = x.1.val.length
    · have h1 := find_put g.rise (a, x.2)
      rw [if_pos hl, ← hk, hf]
      dsimp only
      rw [show findE a.key (putE (a, x.2) h.ents) = some (a, x.2) from h1]
      dsimp only
      rw [if_pos hv.symm, if_pos (by rw [← hv]; exact hl), put_put (a := (a, x.2)) (e := (e, x.2)) hk]
    · rw [if_neg hl, ← hk, hf]
theorem put_val (sd : Nat) (h : Hs) (key : ByteArray) (v : List UInt8) (fl exp : Int) (en : En) : (putR sd h key v fl exp en).1.val = [] := by
  unfold putR stR
  dsimp only
  repeat' split
  all_goals rfl
theorem both_val (sd : Nat) (h : Hs) (key : ByteArray) (u v : List UInt8) (i : Iv) (en : En) : (bothR sd h key u v i en).1.val = [] := by
  unfold bothR
  split
  · rfl
  · exact put_val _ _ _ _ _ _ _
theorem number_val (r : Rv × Hs) (x : Int) (h : r.1.val = []) : (numberR r x).1.val = [] := by
  unfold numberR
  split <;> exact h
theorem that_val (sd : Nat) (h : Hs) (c : Cv) (en : En) (i : Iv) : (thatR sd h c en i).1.val = [] := by
  unfold thatR
  split
  · exact put_val _ _ _ _ _ _ _
  · split
    · exact both_val _ _ _ _ _ _ _
    · split
      · exact both_val _ _ _ _ _ _ _
      · split
        · rfl
        · split
          · rfl
          · unfold countR
            split
            · rfl
            · split
              · rfl
              · exact number_val _ _ (put_val _ _ _ _ _ _ _)
section
variable {L : ShardLib Sh} {w0 w : World} {k b sd n : Nat} {own : Nat → Prop} {st : Hs} {c : Cv} {va : Option Addr} {vc : Nat} {en : En} {i : Iv} {ia : Option Addr} {ic : Nat} {R : Part}
theorem Law.five {A B C D E : Part} (H : Law w0 w (A.and (B.and (C.and (D.and (E.and R)))))) : Law w0 w (A.and (B.and (E.and (C.and (D.and R))))) := H.unassoc.unassoc.rin.assoc.rin.assoc
/-- Nothing is told beside the number. -/
theorem ends_none {r : Rv × Hs} {own' : Nat → Prop} {e : Ending} {w' : World} (he : e = .returned (.agg (rsC r.1 none 0))) (hv : r.1.val = []) (H : Law w0 w' ((shQ L b own' sd n r.2).and R)) : Ends L w0 b sd n R r e w' := by
  refine ⟨none, 0, own', he, ?_⟩
  rw [hv]
  exact H.noVal
set_option maxRecDepth 100000 in
set_option maxHeartbeats 8000000 in
theorem itG0_any (H : Law w0 w ((TnP k b c va vc en i ia ic).and ((shQ L b own sd n st).and ((valP 0 ia ic i.val).and R)))) (hLd : Laid w0) (hn : n ≤ 4398046511104) (hl : n ≤ 900 ∨ st.slab.bud ≤ 57600) (hen : en.ok) (hc : c.ok) (hi : i.ok) (hv : i.val.length ≤ 3000) (hrd : Rd w0 R va vc c.val) (hop : c.op = 0) : Calls Tryz.prog 32 #[.pointer (some ⟨k, 0, none⟩)] w (Ends L w0 b sd (n + 1) R (hasR sd st c en i)) := by
  have hr : hasR sd st c en i = (viewR ({ i with seen := true } : Iv) en, updH st ({ i with seen := true } : Iv)) := by unfold hasR; rw [hop]; rw [if_pos (.inl rfl)]; unfold getsI; rw [hop]; rfl
  have hG : GoodH n st := L.good H.right.q.1
  have H1 := (H.boxT (.cells #[.pointer (some ⟨k, 0, none⟩)] 79)).boxT (.cells (rsC zeroRv none 0) 40)
  rw [World.size_alloc] at H1
  have d1 := tu_op H1.q.1
  have k1 : ((w.alloc (.cells #[.pointer (some ⟨k, 0, none⟩)] 79)).alloc (.cells (rsC zeroRv none 0) 40)).cell? ⟨w.heap.size, 0, none⟩ = some (.pointer (some ⟨k, 0, none⟩)) := boxF1 H1.right.right.right.left.q
  rw [hop, ← zero_res] at d1
  rw [← zero_res] at k1
  have hx := at_i64e hc.exp hen.now
  have hl1 := hl.imp Nat.succ_le_succ id
  rw [hr]
  clear H hr
  have HOP := hide hop
  clear hop
  have hokS : ({ i with seen := true } : Iv).ok := ⟨hi.key, hi.val, hi.exp, hi.sec, hi.seq⟩
  have hbu : n + 1 ≤ 901 ∨ (updH st ({ i with seen := true } : Iv)).slab.bud ≤ 57600 := by rw [upd_budE]; exact hl1
  go_enter Tryz.func32, Tryz.ntmps32
  go_wp2_with (first
    | (go_at_call 62; refine (chSeen_any H1 hn (j := ({ i with seen := true } : Iv)) rfl hokS (Rd.right (Rd.right (Rd.left Rd.val)))).mono ?_; rintro e w5 ⟨⟨v5, rfl⟩, own5, H6⟩; have k5 : w5.cell? ⟨w.heap.size, 0, none⟩ = some (.pointer (some ⟨k, 0, none⟩)) := boxF1 H6.right.right.right.left.q; clear H1)
    | (go_at_call 64; refine (view_any H6.q.1).mono ?_; rintro e w6 ⟨rfl, hg⟩; have H7 := (H6.step hg).right.rot; clear hg H6 k5)
    | (refine wpList_store_row rfl 40 _ _ rfl (w.heap.size + 1) (rsC (viewR ({ i with seen := true } : Iv) en) ia ic) rfl rfl _ (rsC zeroRv none 0) H7.q.1 (res_size _ _ _) rfl (res_one _ _ _) ?_; have H8 := H7.rsRow (viewR ({ i with seen := true } : Iv) en) ia ic))
  exact res_ret rfl H8.q.1 rfl ⟨ia, ic, own5, rfl, H8.right.drop2.shMono (Nat.le_succ n) hbu⟩
set_option maxRecDepth 100000 in
set_option maxHeartbeats 8000000 in
theorem itG1_any (H : Law w0 w ((TnP k b c va vc en i ia ic).and ((shQ L b own sd n st).and ((valP 0 ia ic i.val).and R)))) (hLd : Laid w0) (hn : n ≤ 4398046511104) (hl : n ≤ 900 ∨ st.slab.bud ≤ 57600) (hen : en.ok) (hc : c.ok) (hi : i.ok) (hv : i.val.length ≤ 3000) (hrd : Rd w0 R va vc c.val) (hop : c.op = 1) : Calls Tryz.prog 32 #[.pointer (some ⟨k, 0, none⟩)] w (Ends L w0 b sd (n + 1) R (hasR sd st c en i)) := by
  have hr : hasR sd st c en i = (viewR ({ i with exp := atW c.exp en.now, seen := true } : Iv) en, updH st ({ i with exp := atW c.exp en.now, seen := true } : Iv)) := by unfold hasR; rw [hop]; rw [if_pos (.inr rfl)]; unfold getsI; rw [hop]; rfl
  have hG : GoodH n st := L.good H.right.q.1
  have H1 := (H.boxT (.cells #[.pointer (some ⟨k, 0, none⟩)] 79)).boxT (.cells (rsC zeroRv none 0) 40)
  rw [World.size_alloc] at H1
  have d1 := tu_op H1.q.1
  have k1 : ((w.alloc (.cells #[.pointer (some ⟨k, 0, none⟩)] 79)).alloc (.cells (rsC zeroRv none 0) 40)).cell? ⟨w.heap.size, 0, none⟩ = some (.pointer (some ⟨k, 0, none⟩)) := boxF1 H1.right.right.right.left.q
  rw [hop, ← zero_res] at d1
  rw [← zero_res] at k1
  have hx := at_i64e hc.exp hen.now
  have hl1 := hl.imp Nat.succ_le_succ id
  rw [hr]
  clear H hr
  have HOP := hide hop
  clear hop
  have hokE : ({ i with exp := atW c.exp en.now } : Iv).ok := ⟨hi.key, hi.val, hx, hi.sec, hi.seq⟩
  have hokS : ({ i with exp := atW c.exp en.now, seen := true } : Iv).ok := ⟨hi.key, hi.val, hx, hi.sec, hi.seq⟩
  have hbu : n + 1 ≤ 901 ∨ (updH st ({ i with exp := atW c.exp en.now, seen := true } : Iv)).slab.bud ≤ 57600 := by rw [upd_budE]; exact hl1
  have HUU : Hid (updH (updH st ({ i with exp := atW c.exp en.now } : Iv)) ({ i with exp := atW c.exp en.now, seen := true } : Iv) = updH st ({ i with exp := atW c.exp en.now, seen := true } : Iv)) := upd_upd hG rfl rfl
  have hkt : BoxIn w0 ((shQ L b own sd n st).and ((boxP (w.heap.size + 1) (.cells (rsC zeroRv none 0) 40)).and ((boxP w.heap.size (.cells #[.pointer (some ⟨k, 0, none⟩)] 79)).and ((valP 0 ia ic i.val).and R)))) w.heap.size (.pointer (some ⟨k, 0, none⟩)) := fun W HW => boxF1 HW.right.right.left.q
  go_enter Tryz.func32, Tryz.ntmps32
  go_wp2_with (first
    | (go_at_call 62; refine (chEnd_any H1 hn hkt (j := ({ i with exp := atW c.exp en.now } : Iv)) rfl hokE (Rd.right (Rd.right (Rd.left Rd.val)))).mono ?_; rintro e w3 ⟨⟨v3, rfl⟩, own3, H3⟩; clear H1 hkt k1 d1; have k3 : w3.cell? ⟨w.heap.size, 0, none⟩ = some (.pointer (some ⟨k, 0, none⟩)) := boxF1 H3.right.right.right.left.q)
    | (go_at_call 62; refine (chSeen_any H3 hn (j := ({ i with exp := atW c.exp en.now, seen := true } : Iv)) rfl hokS (Rd.right (Rd.right (Rd.left Rd.val)))).mono ?_; rw [HUU.out]; rintro e w5 ⟨⟨v5, rfl⟩, own5, H6⟩; have k5 : w5.cell? ⟨w.heap.size, 0, none⟩ = some (.pointer (some ⟨k, 0, none⟩)) := boxF1 H6.right.right.right.left.q; clear H3 k3)
    | (go_at_call 64; refine (view_any H6.q.1).mono ?_; rintro e w6 ⟨rfl, hg⟩; have H7 := (H6.step hg).right.rot; clear hg H6 k5)
    | (refine wpList_store_row rfl 40 _ _ rfl (w.heap.size + 1) (rsC (viewR ({ i with exp := atW c.exp en.now, seen := true } : Iv) en) ia ic) rfl rfl _ (rsC zeroRv none 0) H7.q.1 (res_size _ _ _) rfl (res_one _ _ _) ?_; have H8 := H7.rsRow (viewR ({ i with exp := atW c.exp en.now, seen := true } : Iv) en) ia ic))
  exact res_ret rfl H8.q.1 rfl ⟨ia, ic, own5, rfl, H8.right.drop2.shMono (Nat.le_succ n) hbu⟩
set_option maxRecDepth 100000 in
set_option maxHeartbeats 8000000 in
theorem itG2_any (H : Law w0 w ((TnP k b c va vc en i ia ic).and ((shQ L b own sd n st).and ((valP 0 ia ic i.val).and R)))) (hLd : Laid w0) (hn : n ≤ 4398046511104) (hl : n ≤ 900 ∨ st.slab.bud ≤ 57600) (hen : en.ok) (hc : c.ok) (hi : i.ok) (hv : i.val.length ≤ 3000) (hrd : Rd w0 R va vc c.val) (hop : c.op = 2) : Calls Tryz.prog 32 #[.pointer (some ⟨k, 0, none⟩)] w (Ends L w0 b sd (n + 1) R (hasR sd st c en i)) := by
  have hr : hasR sd st c en i = (onlyR 6, updH st ({ i with exp := atW c.exp en.now } : Iv)) := by unfold hasR; rw [hop]; rw [if_neg (by decide), if_pos rfl]; unfold getsI; rw [hop]; rfl
  have hG : GoodH n st := L.good H.right.q.1
  have H1 := (H.boxT (.cells #[.pointer (some ⟨k, 0, none⟩)] 79)).boxT (.cells (rsC zeroRv none 0) 40)
  rw [World.size_alloc] at H1
  have d1 := tu_op H1.q.1
  have k1 : ((w.alloc (.cells #[.pointer (some ⟨k, 0, none⟩)] 79)).alloc (.cells (rsC zeroRv none 0) 40)).cell? ⟨w.heap.size, 0, none⟩ = some (.pointer (some ⟨k, 0, none⟩)) := boxF1 H1.right.right.right.left.q
  rw [hop, ← zero_res] at d1
  rw [← zero_res] at k1
  have hx := at_i64e hc.exp hen.now
  have hl1 := hl.imp Nat.succ_le_succ id
  rw [hr]
  clear H hr
  have HOP := hide hop
  clear hop
  have hokE : ({ i with exp := atW c.exp en.now } : Iv).ok := ⟨hi.key, hi.val, hx, hi.sec, hi.seq⟩
  have hbu : n + 1 ≤ 901 ∨ (updH st ({ i with exp := atW c.exp en.now } : Iv)).slab.bud ≤ 57600 := by rw [upd_budE]; exact hl1
  have hkt : BoxIn w0 ((shQ L b own sd n st).and ((boxP (w.heap.size + 1) (.cells (rsC zeroRv none 0) 40)).and ((boxP w.heap.size (.cells #[.pointer (some ⟨k, 0, none⟩)] 79)).and ((valP 0 ia ic i.val).and R)))) w.heap.size (.pointer (some ⟨k, 0, none⟩)) := fun W HW => boxF1 HW.right.right.left.q
  go_enter Tryz.func32, Tryz.ntmps32
  go_wp2_with (first
    | (go_at_call 62; refine (chEnd_any H1 hn hkt (j := ({ i with exp := atW c.exp en.now } : Iv)) rfl hokE (Rd.right (Rd.right (Rd.left Rd.val)))).mono ?_; rintro e w3 ⟨⟨v3, rfl⟩, own3, H3⟩; clear H1 hkt k1 d1)
    | (go_at_call 52; refine (only_any 6 _).mono ?_; rintro e w6 ⟨rfl, hg⟩; have H7 := (H3.step hg).right.rot; clear hg H3)
    | (refine wpList_store_row rfl 40 _ _ rfl (w.heap.size + 1) (rsC (onlyR 6) none 0) rfl rfl _ (rsC zeroRv none 0) H7.q.1 (res_size _ _ _) rfl (res_one _ _ _) ?_; have H8 := H7.rsRow (onlyR 6) none 0))
  exact res_ret rfl H8.q.1 rfl (ends_none rfl rfl (H8.right.drop2.drop2.shMono (Nat.le_succ n) hbu))
set_option maxRecDepth 100000 in
set_option maxHeartbeats 8000000 in
theorem itA4_any (H : Law w0 w ((TnP k b c va vc en i ia ic).and ((shQ L b own sd n st).and ((valP 0 ia ic i.val).and R)))) (hLd : Laid w0) (hn : n ≤ 4398046511104) (hl : n ≤ 900 ∨ st.slab.bud ≤ 57600) (hen : en.ok) (hc : c.ok) (hi : i.ok) (hv : i.val.length ≤ 3000) (hrd : Rd w0 R va vc c.val) (hop : c.op = 4) : Calls Tryz.prog 32 #[.pointer (some ⟨k, 0, none⟩)] w (Ends L w0 b sd (n + 1) R (hasR sd st c en i)) := by
  have hr : hasR sd st c en i = (onlyR 3, st) := by unfold hasR; rw [hop]; rfl
  have hG : GoodH n st := L.good H.right.q.1
  have H1 := (H.boxT (.cells #[.pointer (some ⟨k, 0, none⟩)] 79)).boxT (.cells (rsC zeroRv none 0) 40)
  rw [World.size_alloc] at H1
  have d1 := tu_op H1.q.1
  have k1 : ((w.alloc (.cells #[.pointer (some ⟨k, 0, none⟩)] 79)).alloc (.cells (rsC zeroRv none 0) 40)).cell? ⟨w.heap.size, 0, none⟩ = some (.pointer (some ⟨k, 0, none⟩)) := boxF1 H1.right.right.right.left.q
  rw [hop, ← zero_res] at d1
  rw [← zero_res] at k1
  have hx := at_i64e hc.exp hen.now
  have hl1 := hl.imp Nat.succ_le_succ id
  rw [hr]
  clear H hr
  have HOP := hide hop
  clear hop
  go_enter Tryz.func32, Tryz.ntmps32
  go_wp2_with (first
    | (go_at_call 52; refine (only_any 3 _).mono ?_; rintro e w6 ⟨rfl, hg⟩; have H7 := (H1.step hg).right.rot; clear hg H1)
    | (refine wpList_store_row rfl 40 _ _ rfl (w.heap.size + 1) (rsC (onlyR 3) none 0) rfl rfl _ (rsC zeroRv none 0) H7.q.1 (res_size _ _ _) rfl (res_one _ _ _) ?_; have H8 := H7.rsRow (onlyR 3) none 0))
  exact res_ret rfl H8.q.1 rfl (ends_none rfl rfl (H8.right.drop2.drop2.shMono (Nat.le_succ n) hl1))
set_option maxRecDepth 100000 in
set_option maxHeartbeats 8000000 in
theorem itM12_any (H : Law w0 w ((TnP k b c va vc en i ia ic).and ((shQ L b own sd n st).and ((valP 0 ia ic i.val).and R)))) (hLd : Laid w0) (hn : n ≤ 4398046511104) (hl : n ≤ 900 ∨ st.slab.bud ≤ 57600) (hen : en.ok) (hc : c.ok) (hi : i.ok) (hv : i.val.length ≤ 3000) (hrd : Rd w0 R va vc c.val) (hop : c.op = 12) : Calls Tryz.prog 32 #[.pointer (some ⟨k, 0, none⟩)] w (Ends L w0 b sd (n + 1) R (hasR sd st c en i)) := by
  have hr : hasR sd st c en i = (({ viewR (metaI c en i) en with lost := i.won, won := !i.won && i.st } : Rv), updH st ({ metaI c en i with won := i.won || i.st } : Iv)) := by unfold hasR; rw [hop]; rfl
  have hG : GoodH n st := L.good H.right.q.1
  have H1 := (H.boxT (.cells #[.pointer (some ⟨k, 0, none⟩)] 79)).boxT (.cells (rsC zeroRv none 0) 40)
  rw [World.size_alloc] at H1
  have d1 := tu_op H1.q.1
  have k1 : ((w.alloc (.cells #[.pointer (some ⟨k, 0, none⟩)] 79)).alloc (.cells (rsC zeroRv none 0) 40)).cell? ⟨w.heap.size, 0, none⟩ = some (.pointer (some ⟨k, 0, none⟩)) := boxF1 H1.right.right.right.left.q
  rw [hop, ← zero_res] at d1
  rw [← zero_res] at k1
  have hx := at_i64e hc.exp hen.now
  have hl1 := hl.imp Nat.succ_le_succ id
  rw [hr]
  clear H hr
  have HOP := hide hop
  clear hop
  have hbu : n + 1 ≤ 901 ∨ (updH st ({ metaI c en i with won := i.won || i.st } : Iv)).slab.bud ≤ 57600 := by rw [upd_budE]; exact hl1
  have H1 := H1.five
  go_enter Tryz.func32, Tryz.ntmps32
  go_wp2_with (first
    | (go_at_call 65; refine (see_any H1 hn hen hc hi).mono ?_; rintro e w3 ⟨a3, c3, own3, rfl, H3⟩; have H7 := (H3.rin.rot); clear H3 H1)
    | (refine wpList_store_row rfl 40 _ _ rfl (w.heap.size + 1) (rsC ({ viewR (metaI c en i) en with lost := i.won, won := !i.won && i.st } : Rv) a3 c3) rfl rfl _ (rsC zeroRv none 0) H7.q.1 (res_size _ _ _) rfl (res_one _ _ _) ?_; have H8 := H7.rsRow ({ viewR (metaI c en i) en with lost := i.won, won := !i.won && i.st } : Rv) a3 c3))
  exact res_ret rfl H8.q.1 rfl ⟨a3, c3, own3, rfl, (H8.right.rin.drop2).shMono (Nat.le_succ n) hbu⟩
end
end Go.Proofs.YtkfeafmpaodagaaGreatDoor

namespace Go.Proofs.YtkfeafmpaodagaaGreatDoor
set_option linter.unusedVariables false
open Go.RowKit Go.Shelf Go.Sort
variable {Sh : World → Nat → (Nat → Prop) → Nat → Nat → Hs → Prop}

section
variable {L : ShardLib Sh} {w0 w : World} {k b sd n : Nat} {own : Nat → Prop} {st : Hs} {c : Cv} {va : Option Addr} {vc : Nat} {en : En} {i : Iv} {ia : Option Addr} {ic : Nat} {R : Part}
theorem has_that (hop : c.op = 3 ∨ c.op = 5 ∨ c.op = 6 ∨ c.op = 7 ∨ c.op = 8 ∨ c.op = 9 ∨ c.op = 10 ∨ c.op = 11) : hasR sd st c en i = if c.cas ≠ 0 ∧ c.cas ≠ i.cas then (onlyR 4, st) else thatR sd st c en i := by
  unfold hasR thatR
  rcases hop with e | e | e | e | e | e | e | e <;> rw [e]
  · rfl
  · rfl
  · unfold bothR joinV
    rw [e]
    rfl
  · unfold bothR joinV
    rw [e, Nat.add_comm c.val.length]
    rfl
  · rfl
  · rfl
  · unfold countR
    rfl
  · unfold countR
    rfl
set_option maxRecDepth 100000 in
set_option maxHeartbeats 8000000 in
theorem itOther_any (H : Law w0 w ((TnP k b c va vc en i ia ic).and ((shQ L b own sd n st).and ((valP 0 ia ic i.val).and R)))) (hLd : Laid w0) (hn : n ≤ 4398046511104) (hl : n ≤ 900 ∨ st.slab.bud ≤ 57600) (hen : en.ok) (hc : c.ok) (hi : i.ok) (hv : i.val.length ≤ 3000) (hrd : Rd w0 R va vc c.val) (hop : c.op = 3 ∨ c.op = 5 ∨ c.op = 6 ∨ c.op = 7 ∨ c.op = 8 ∨ c.op = 9 ∨ c.op = 10 ∨ c.op = 11) : Calls Tryz.prog 32 #[.pointer (some ⟨k, 0, none⟩)] w (Ends L w0 b sd (n + 1) R (hasR sd st c en i)) := by
  have hr := has_that (sd := sd) (st := st) (en := en) (i := i) hop
  have H1 := (H.boxT (.cells #[.pointer (some ⟨k, 0, none⟩)] 79)).boxT (.cells (rsC zeroRv none 0) 40)
  rw [World.size_alloc] at H1
  have d1 := tu_op H1.q.1
  have d6 := tu_cas H1.q.1
  have d19 := tu_icas H1.q.1
  change ((w.alloc (.cells #[.pointer (some ⟨k, 0, none⟩)] 79)).alloc (.cells (rsC zeroRv none 0) 40)).cell? ⟨k, 19, none⟩ = some (.int .u64 i.cas) at d19
  have k1 : ((w.alloc (.cells #[.pointer (some ⟨k, 0, none⟩)] 79)).alloc (.cells (rsC zeroRv none 0) 40)).cell? ⟨w.heap.size, 0, none⟩ = some (.pointer (some ⟨k, 0, none⟩)) := boxF1 H1.right.right.right.left.q
  rw [← zero_res] at d1 d6 d19 k1
  have hl1 := hl.imp Nat.succ_le_succ id
  have b0 : (c.op == 0) = false := beq_eq_false_iff_ne.2 (by omega)
  have b1 : (c.op == 1) = false := beq_eq_false_iff_ne.2 (by omega)
  have b2 : (c.op == 2) = false := beq_eq_false_iff_ne.2 (by omega)
  have b4 : (c.op == 4) = false := beq_eq_false_iff_ne.2 (by omega)
  have b12 : (c.op == 12) = false := beq_eq_false_iff_ne.2 (by omega)
  have HOP := hide hop
  clear H hop
  by_cases ho : c.cas ≠ 0 ∧ c.cas ≠ i.cas
  · rw [hr, if_pos ho]
    have q1 : (c.cas != 0) = true := by simpa using ho.1
    have q2 : (c.cas != i.cas) = true := by simpa using ho.2
    clear ho hr
    go_enter Tryz.func32, Tryz.ntmps32
    go_upto_region 15 with fail
    go_quiet (fail)
    have H2 := H1.drewN nq
    clear H1 k1 d1 d6 d19
    go_wp2_with (first
      | (go_at_call 52; refine (only_any 4 _).mono ?_; rintro e w6 ⟨rfl, hg⟩; have H7 := (H2.step hg).right.rot; clear hg H2)
      | (refine wpList_store_row rfl 40 _ _ rfl (w.heap.size + 1) (rsC (onlyR 4) none 0) rfl rfl _ (rsC zeroRv none 0) H7.q.1 (res_size _ _ _) rfl (res_one _ _ _) ?_; have H8 := H7.rsRow (onlyR 4) none 0))
    exact res_ret rfl H8.q.1 rfl (ends_none rfl rfl (H8.right.drop2.drop2.shMono (Nat.le_succ n) hl1))
  · rw [hr, if_neg ho]
    by_cases h0 : c.cas = 0
    · have q1 : (c.cas != 0) = false := by rw [h0]; rfl
      clear ho hr
      go_enter Tryz.func32, Tryz.ntmps32
      go_upto_region 15 with fail
      go_quiet (fail)
      have H2 := (H1.drewN nq).five
      have k2 := k1
      clear H1 d1 d6 d19
      go_wp2_with (first
        | (go_at_call 66; refine (onThatOne_any H2 hLd hn hl hen hc hi hv hrd.right.right HOP.out).mono ?_; rintro e w6 ⟨own6, rfl, H6⟩; have H7 := H6.rot; clear H6 H2 k1 k2)
        | (refine wpList_store_row rfl 40 _ _ rfl (w.heap.size + 1) (rsC (thatR sd st c en i).1 none 0) rfl rfl _ (rsC zeroRv none 0) H7.q.1 (res_size _ _ _) rfl (res_one _ _ _) ?_; have H8 := H7.rsRow (thatR sd st c en i).1 none 0))
      exact res_ret rfl H8.q.1 rfl (ends_none rfl (that_val _ _ _ _ _) H8.right.drop2)
    · have q1 : (c.cas != 0) = true := by simpa using h0
      have q2 : (c.cas != i.cas) = false := by
        have : c.cas = i.cas := Classical.byContradiction fun h => ho ⟨h0, h⟩
        rw [this]
        simp
      clear ho hr
      go_enter Tryz.func32, Tryz.ntmps32
      go_upto_region 15 with fail
      go_quiet (fail)
      have H2 := (H1.drewN nq).five
      have k2 := k1
      clear H1 d1 d6 d19
      go_wp2_with (first
        | (go_at_call 66; refine (onThatOne_any H2 hLd hn hl hen hc hi hv hrd.right.right HOP.out).mono ?_; rintro e w6 ⟨own6, rfl, H6⟩; have H7 := H6.rot; clear H6 H2 k1 k2)
        | (refine wpList_store_row rfl 40 _ _ rfl (w.heap.size + 1) (rsC (thatR sd st c en i).1 none 0) rfl rfl _ (rsC zeroRv none 0) H7.q.1 (res_size _ _ _) rfl (res_one _ _ _) ?_; have H8 := H7.rsRow (thatR sd st c en i).1 none 0))
      exact res_ret rfl H8.q.1 rfl (ends_none rfl (that_val _ _ _ _ _) H8.right.drop2)
theorem onIt_any (H : Law w0 w ((TnP k b c va vc en i ia ic).and ((shQ L b own sd n st).and ((valP 0 ia ic i.val).and R)))) (hLd : Laid w0) (hn : n ≤ 4398046511104) (hl : n ≤ 900 ∨ st.slab.bud ≤ 57600) (hen : en.ok) (hc : c.ok) (hi : i.ok) (hv : i.val.length ≤ 3000) (hrd : Rd w0 R va vc c.val) (hop : 0 ≤ c.op ∧ c.op ≤ 12) : Calls Tryz.prog 32 #[.pointer (some ⟨k, 0, none⟩)] w (Ends L w0 b sd (n + 1) R (hasR sd st c en i)) := by
  by_cases h0 : c.op = 0
  · exact itG0_any H hLd hn hl hen hc hi hv hrd h0
  by_cases h1 : c.op = 1
  · exact itG1_any H hLd hn hl hen hc hi hv hrd h1
  by_cases h2 : c.op = 2
  · exact itG2_any H hLd hn hl hen hc hi hv hrd h2
  by_cases h4 : c.op = 4
  · exact itA4_any H hLd hn hl hen hc hi hv hrd h4
  by_cases h12 : c.op = 12
  · exact itM12_any H hLd hn hl hen hc hi hv hrd h12
  exact itOther_any H hLd hn hl hen hc hi hv hrd (by omega)
end
end Go.Proofs.YtkfeafmpaodagaaGreatDoor

namespace Go.Proofs.YtkfeafmpaodagaaGreatDoor
set_option linter.unusedVariables false
open Go.RowKit Go.Shelf Go.Sort
variable {Sh : World → Nat → (Nat → Prop) → Nat → Nat → Hs → Prop}

section
variable {L : ShardLib Sh} {w0 w : World} {k b sd n : Nat} {own : Nat → Prop} {st : Hs} {c : Cv} {va : Option Addr} {vc : Nat} {en : En} {i : Iv} {ia : Option Addr} {ic : Nat} {R : Part}
theorem won_val (sd : Nat) (h : Hs) (c : Cv) (en : En) : (wonR sd h c en).1.val = [] := by
  unfold wonR
  split <;> rfl
set_option maxRecDepth 100000 in
set_option maxHeartbeats 8000000 in
theorem noS3_any (H : Law w0 w ((TnP k b c va vc en i ia ic).and ((shQ L b own sd n st).and ((valP 0 ia ic i.val).and R)))) (hLd : Laid w0) (hn : n < 4398046511104) (hl : n ≤ 900 ∨ st.slab.bud ≤ 57600) (hen : en.ok) (hc : c.ok) (hrd : Rd w0 R va vc c.val) (hop : c.op = 3) (h0 : c.cas = 0) : Calls Tryz.prog 31 #[.pointer (some ⟨k, 0, none⟩)] w (Ends L w0 b sd (n + 1) R (makesR sd st c en)) := by
  have hr : makesR sd st c en = (putR sd st c.key c.val c.fl (atW c.exp en.now) en) := by unfold makesR; rw [if_pos hop, if_pos h0]
  have H0 := H.boxT (.cells (rsC zeroRv none 0) 40)
  have d1 := tu_op H0.q.1
  rw [← zero_res] at d1
  have hl1 := hl.imp Nat.succ_le_succ id
  have hnn := Nat.le_of_lt hn
  rw [hr]
  clear H hr
  rw [hop] at d1
  have d6 := tu_cas H0.q.1
  rw [h0, ← zero_res] at d6
  go_enter Tryz.func31, Tryz.ntmps31
  go_wp2_with (first
    | (go_at_call 57; refine (storeTold_any H0 hnn hl hen hc hrd.right.right).mono ?_; rintro e w3 ⟨rfl, own3, j3, ja3, jc3, H3, h3⟩; have H4 := H3.right.rot; clear h3 H3 H0)
    | (refine wpList_store_row rfl 40 _ _ rfl w.heap.size (rsC (putR sd st c.key c.val c.fl (atW c.exp en.now) en).1 none 0) rfl rfl _ (rsC zeroRv none 0) H4.q.1 (res_size _ _ _) rfl (res_one _ _ _) ?_; have H8 := H4.rsRow (putR sd st c.key c.val c.fl (atW c.exp en.now) en).1 none 0))
  exact res_ret rfl H8.q.1 rfl (ends_none rfl (put_val _ _ _ _ _ _ _) H8.right.drop2)
set_option maxRecDepth 100000 in
set_option maxHeartbeats 8000000 in
theorem noM3_any (H : Law w0 w ((TnP k b c va vc en i ia ic).and ((shQ L b own sd n st).and ((valP 0 ia ic i.val).and R)))) (hLd : Laid w0) (hn : n < 4398046511104) (hl : n ≤ 900 ∨ st.slab.bud ≤ 57600) (hen : en.ok) (hc : c.ok) (hrd : Rd w0 R va vc c.val) (hop : c.op = 3) (h0 : c.cas ≠ 0) : Calls Tryz.prog 31 #[.pointer (some ⟨k, 0, none⟩)] w (Ends L w0 b sd (n + 1) R (makesR sd st c en)) := by
  have hr : makesR sd st c en = (onlyR 1, st) := by unfold makesR; rw [if_pos hop, if_neg h0]
  have H0 := H.boxT (.cells (rsC zeroRv none 0) 40)
  have d1 := tu_op H0.q.1
  rw [← zero_res] at d1
  have hl1 := hl.imp Nat.succ_le_succ id
  have hnn := Nat.le_of_lt hn
  rw [hr]
  clear H hr
  rw [hop] at d1
  have d6 := tu_cas H0.q.1
  rw [← zero_res] at d6
  have q1 : (c.cas != 0) = true := by simpa using h0
  go_enter Tryz.func31, Tryz.ntmps31
  go_wp2_with (first
    | (go_at_call 52; refine (only_any 1 _).mono ?_; rintro e w6 ⟨rfl, hg⟩; have H7 := (H0.step hg).right.rot; clear hg H0)
    | (refine wpList_store_row rfl 40 _ _ rfl w.heap.size (rsC (onlyR 1) none 0) rfl rfl _ (rsC zeroRv none 0) H7.q.1 (res_size _ _ _) rfl (res_one _ _ _) ?_; have H8 := H7.rsRow (onlyR 1) none 0))
  exact res_ret rfl H8.q.1 rfl (ends_none rfl rfl (H8.right.drop2.shMono (Nat.le_succ n) hl1))
set_option maxRecDepth 100000 in
set_option maxHeartbeats 8000000 in
theorem noS4_any (H : Law w0 w ((TnP k b c va vc en i ia ic).and ((shQ L b own sd n st).and ((valP 0 ia ic i.val).and R)))) (hLd : Laid w0) (hn : n < 4398046511104) (hl : n ≤ 900 ∨ st.slab.bud ≤ 57600) (hen : en.ok) (hc : c.ok) (hrd : Rd w0 R va vc c.val) (hop : c.op = 4) : Calls Tryz.prog 31 #[.pointer (some ⟨k, 0, none⟩)] w (Ends L w0 b sd (n + 1) R (makesR sd st c en)) := by
  have hr : makesR sd st c en = (putR sd st c.key c.val c.fl (atW c.exp en.now) en) := by unfold makesR; rw [hop]; rfl
  have H0 := H.boxT (.cells (rsC zeroRv none 0) 40)
  have d1 := tu_op H0.q.1
  rw [← zero_res] at d1
  have hl1 := hl.imp Nat.succ_le_succ id
  have hnn := Nat.le_of_lt hn
  rw [hr]
  clear H hr
  rw [hop] at d1
  go_enter Tryz.func31, Tryz.ntmps31
  go_wp2_with (first
    | (go_at_call 57; refine (storeTold_any H0 hnn hl hen hc hrd.right.right).mono ?_; rintro e w3 ⟨rfl, own3, j3, ja3, jc3, H3, h3⟩; have H4 := H3.right.rot; clear h3 H3 H0)
    | (refine wpList_store_row rfl 40 _ _ rfl w.heap.size (rsC (putR sd st c.key c.val c.fl (atW c.exp en.now) en).1 none 0) rfl rfl _ (rsC zeroRv none 0) H4.q.1 (res_size _ _ _) rfl (res_one _ _ _) ?_; have H8 := H4.rsRow (putR sd st c.key c.val c.fl (atW c.exp en.now) en).1 none 0))
  exact res_ret rfl H8.q.1 rfl (ends_none rfl (put_val _ _ _ _ _ _ _) H8.right.drop2)
set_option maxRecDepth 100000 in
set_option maxHeartbeats 8000000 in
theorem noR5_any (H : Law w0 w ((TnP k b c va vc en i ia ic).and ((shQ L b own sd n st).and ((valP 0 ia ic i.val).and R)))) (hLd : Laid w0) (hn : n < 4398046511104) (hl : n ≤ 900 ∨ st.slab.bud ≤ 57600) (hen : en.ok) (hc : c.ok) (hrd : Rd w0 R va vc c.val) (hop : c.op = 5) : Calls Tryz.prog 31 #[.pointer (some ⟨k, 0, none⟩)] w (Ends L w0 b sd (n + 1) R (makesR sd st c en)) := by
  have hr : makesR sd st c en = (onlyR 3, st) := by unfold makesR; rw [hop]; rfl
  have H0 := H.boxT (.cells (rsC zeroRv none 0) 40)
  have d1 := tu_op H0.q.1
  rw [← zero_res] at d1
  have hl1 := hl.imp Nat.succ_le_succ id
  have hnn := Nat.le_of_lt hn
  rw [hr]
  clear H hr
  rw [hop] at d1
  go_enter Tryz.func31, Tryz.ntmps31
  go_wp2_with (first
    | (go_at_call 52; refine (only_any 3 _).mono ?_; rintro e w6 ⟨rfl, hg⟩; have H7 := (H0.step hg).right.rot; clear hg H0)
    | (refine wpList_store_row rfl 40 _ _ rfl w.heap.size (rsC (onlyR 3) none 0) rfl rfl _ (rsC zeroRv none 0) H7.q.1 (res_size _ _ _) rfl (res_one _ _ _) ?_; have H8 := H7.rsRow (onlyR 3) none 0))
  exact res_ret rfl H8.q.1 rfl (ends_none rfl rfl (H8.right.drop2.shMono (Nat.le_succ n) hl1))
set_option maxRecDepth 100000 in
set_option maxHeartbeats 8000000 in
theorem noR6_any (H : Law w0 w ((TnP k b c va vc en i ia ic).and ((shQ L b own sd n st).and ((valP 0 ia ic i.val).and R)))) (hLd : Laid w0) (hn : n < 4398046511104) (hl : n ≤ 900 ∨ st.slab.bud ≤ 57600) (hen : en.ok) (hc : c.ok) (hrd : Rd w0 R va vc c.val) (hop : c.op = 6) : Calls Tryz.prog 31 #[.pointer (some ⟨k, 0, none⟩)] w (Ends L w0 b sd (n + 1) R (makesR sd st c en)) := by
  have hr : makesR sd st c en = (onlyR 3, st) := by unfold makesR; rw [hop]; rfl
  have H0 := H.boxT (.cells (rsC zeroRv none 0) 40)
  have d1 := tu_op H0.q.1
  rw [← zero_res] at d1
  have hl1 := hl.imp Nat.succ_le_succ id
  have hnn := Nat.le_of_lt hn
  rw [hr]
  clear H hr
  rw [hop] at d1
  go_enter Tryz.func31, Tryz.ntmps31
  go_wp2_with (first
    | (go_at_call 52; refine (only_any 3 _).mono ?_; rintro e w6 ⟨rfl, hg⟩; have H7 := (H0.step hg).right.rot; clear hg H0)
    | (refine wpList_store_row rfl 40 _ _ rfl w.heap.size (rsC (onlyR 3) none 0) rfl rfl _ (rsC zeroRv none 0) H7.q.1 (res_size _ _ _) rfl (res_one _ _ _) ?_; have H8 := H7.rsRow (onlyR 3) none 0))
  exact res_ret rfl H8.q.1 rfl (ends_none rfl rfl (H8.right.drop2.shMono (Nat.le_succ n) hl1))
set_option maxRecDepth 100000 in
set_option maxHeartbeats 8000000 in
theorem noR7_any (H : Law w0 w ((TnP k b c va vc en i ia ic).and ((shQ L b own sd n st).and ((valP 0 ia ic i.val).and R)))) (hLd : Laid w0) (hn : n < 4398046511104) (hl : n ≤ 900 ∨ st.slab.bud ≤ 57600) (hen : en.ok) (hc : c.ok) (hrd : Rd w0 R va vc c.val) (hop : c.op = 7) : Calls Tryz.prog 31 #[.pointer (some ⟨k, 0, none⟩)] w (Ends L w0 b sd (n + 1) R (makesR sd st c en)) := by
  have hr : makesR sd st c en = (onlyR 3, st) := by unfold makesR; rw [hop]; rfl
  have H0 := H.boxT (.cells (rsC zeroRv none 0) 40)
  have d1 := tu_op H0.q.1
  rw [← zero_res] at d1
  have hl1 := hl.imp Nat.succ_le_succ id
  have hnn := Nat.le_of_lt hn
  rw [hr]
  clear H hr
  rw [hop] at d1
  go_enter Tryz.func31, Tryz.ntmps31
  go_wp2_with (first
    | (go_at_call 52; refine (only_any 3 _).mono ?_; rintro e w6 ⟨rfl, hg⟩; have H7 := (H0.step hg).right.rot; clear hg H0)
    | (refine wpList_store_row rfl 40 _ _ rfl w.heap.size (rsC (onlyR 3) none 0) rfl rfl _ (rsC zeroRv none 0) H7.q.1 (res_size _ _ _) rfl (res_one _ _ _) ?_; have H8 := H7.rsRow (onlyR 3) none 0))
  exact res_ret rfl H8.q.1 rfl (ends_none rfl rfl (H8.right.drop2.shMono (Nat.le_succ n) hl1))
set_option maxRecDepth 100000 in
set_option maxHeartbeats 8000000 in
theorem noN10_any (H : Law w0 w ((TnP k b c va vc en i ia ic).and ((shQ L b own sd n st).and ((valP 0 ia ic i.val).and R)))) (hLd : Laid w0) (hn : n < 4398046511104) (hl : n ≤ 900 ∨ st.slab.bud ≤ 57600) (hen : en.ok) (hc : c.ok) (hrd : Rd w0 R va vc c.val) (hop : c.op = 10) (hm : c.makes = true) (x : Nat) (hx : c.ini = (x : Int)) : Calls Tryz.prog 31 #[.pointer (some ⟨k, 0, none⟩)] w (Ends L w0 b sd (n + 1) R (makesR sd st c en)) := by
  have hr : makesR sd st c en = (numberR (putR sd st c.key (showB (x : Int)) 0 (atW c.exp en.now) en) x) := by unfold makesR; rw [hop, hm, hx]; rfl
  have H0 := H.boxT (.cells (rsC zeroRv none 0) 40)
  have d1 := tu_op H0.q.1
  rw [← zero_res] at d1
  have hl1 := hl.imp Nat.succ_le_succ id
  have hnn := Nat.le_of_lt hn
  rw [hr]
  clear H hr
  rw [hop] at d1
  have d9 := tu_makes H0.q.1
  rw [hm, ← zero_res] at d9
  have hxb : x < 18446744073709551616 := by have := hc.ini; unfold U64 at this; omega
  have hxe := at_i64e hc.exp hen.now
  go_enter Tryz.func31, Tryz.ntmps31
  go_upto_region 15 with fail
  rw [zero_res]
  generalize w.alloc (.cells (rsC zeroRv none 0) 40) = W at *
  have d8 := tu_ini H0.q.1
  rw [hx] at d8
  have HN := hide (fun m => end_any (w := W.drewN m) (H0.drewN m).q.1)
  have HH := hide H0
  clear H0 d1 d9
  refine region_dtail 8 (by kernel_rfl) (by simp) (by kernel_rfl) ?_
  simp only [List.take_succ_cons, List.take_zero, List.drop_succ_cons, List.drop_zero]
  repeat (quiet_step (exact Calls.quiet_of (HN.out _)))
  refine wpQuiet_nil ?_
  intro _ hw'
  obtain ⟨nq, rfl⟩ := hw'
  have H1 := HH.out.drewN nq
  clear HH HN d8
  generalize W.drewN nq = X at *
  go_wp2_with (first
    | (go_at_call 58; refine (storeNumber_any H1 hLd hnn hl hen x hxb 0 (atW c.exp en.now) hc.key hxe).mono ?_; rintro e w3 ⟨own3, rfl, H3⟩; have H4 := H3.rot; clear H3 H1)
    | (refine wpList_store_row rfl 40 _ _ rfl w.heap.size (rsC (numberR (putR sd st c.key (showB (x : Int)) 0 (atW c.exp en.now) en) x).1 none 0) rfl rfl _ (rsC zeroRv none 0) H4.q.1 (res_size _ _ _) rfl (res_one _ _ _) ?_; have H8 := H4.rsRow (numberR (putR sd st c.key (showB (x : Int)) 0 (atW c.exp en.now) en) x).1 none 0))
  exact res_ret rfl H8.q.1 rfl (ends_none rfl (number_val _ _ (put_val _ _ _ _ _ _ _)) H8.right.drop2)
set_option maxRecDepth 100000 in
set_option maxHeartbeats 8000000 in
theorem noZ10_any (H : Law w0 w ((TnP k b c va vc en i ia ic).and ((shQ L b own sd n st).and ((valP 0 ia ic i.val).and R)))) (hLd : Laid w0) (hn : n < 4398046511104) (hl : n ≤ 900 ∨ st.slab.bud ≤ 57600) (hen : en.ok) (hc : c.ok) (hrd : Rd w0 R va vc c.val) (hop : c.op = 10) (hm : c.makes = false) : Calls Tryz.prog 31 #[.pointer (some ⟨k, 0, none⟩)] w (Ends L w0 b sd (n + 1) R (makesR sd st c en)) := by
  have hr : makesR sd st c en = (onlyR 1, st) := by unfold makesR; rw [hop, hm]; rfl
  have H0 := H.boxT (.cells (rsC zeroRv none 0) 40)
  have d1 := tu_op H0.q.1
  rw [← zero_res] at d1
  have hl1 := hl.imp Nat.succ_le_succ id
  have hnn := Nat.le_of_lt hn
  rw [hr]
  clear H hr
  rw [hop] at d1
  have d9 := tu_makes H0.q.1
  rw [hm, ← zero_res] at d9
  go_enter Tryz.func31, Tryz.ntmps31
  go_wp2_with (first
    | (go_at_call 52; refine (only_any 1 _).mono ?_; rintro e w6 ⟨rfl, hg⟩; have H7 := (H0.step hg).right.rot; clear hg H0)
    | (refine wpList_store_row rfl 40 _ _ rfl w.heap.size (rsC (onlyR 1) none 0) rfl rfl _ (rsC zeroRv none 0) H7.q.1 (res_size _ _ _) rfl (res_one _ _ _) ?_; have H8 := H7.rsRow (onlyR 1) none 0))
  exact res_ret rfl H8.q.1 rfl (ends_none rfl rfl (H8.right.drop2.shMono (Nat.le_succ n) hl1))
set_option maxRecDepth 100000 in
set_option maxHeartbeats 8000000 in
theorem noN11_any (H : Law w0 w ((TnP k b c va vc en i ia ic).and ((shQ L b own sd n st).and ((valP 0 ia ic i.val).and R)))) (hLd : Laid w0) (hn : n < 4398046511104) (hl : n ≤ 900 ∨ st.slab.bud ≤ 57600) (hen : en.ok) (hc : c.ok) (hrd : Rd w0 R va vc c.val) (hop : c.op = 11) (hm : c.makes = true) (x : Nat) (hx : c.ini = (x : Int)) : Calls Tryz.prog 31 #[.pointer (some ⟨k, 0, none⟩)] w (Ends L w0 b sd (n + 1) R (makesR sd st c en)) := by
  have hr : makesR sd st c en = (numberR (putR sd st c.key (showB (x : Int)) 0 (atW c.exp en.now) en) x) := by unfold makesR; rw [hop, hm, hx]; rfl
  have H0 := H.boxT (.cells (rsC zeroRv none 0) 40)
  have d1 := tu_op H0.q.1
  rw [← zero_res] at d1
  have hl1 := hl.imp Nat.succ_le_succ id
  have hnn := Nat.le_of_lt hn
  rw [hr]
  clear H hr
  rw [hop] at d1
  have d9 := tu_makes H0.q.1
  rw [hm, ← zero_res] at d9
  have hxb : x < 18446744073709551616 := by have := hc.ini; unfold U64 at this; omega
  have hxe := at_i64e hc.exp hen.now
  go_enter Tryz.func31, Tryz.ntmps31
  go_upto_region 15 with fail
  rw [zero_res]
  generalize w.alloc (.cells (rsC zeroRv none 0) 40) = W at *
  have d8 := tu_ini H0.q.1
  rw [hx] at d8
  have HN := hide (fun m => end_any (w := W.drewN m) (H0.drewN m).q.1)
  have HH := hide H0
  clear H0 d1 d9
  refine region_dtail 8 (by kernel_rfl) (by simp) (by kernel_rfl) ?_
  simp only [List.take_succ_cons, List.take_zero, List.drop_succ_cons, List.drop_zero]
  repeat (quiet_step (exact Calls.quiet_of (HN.out _)))
  refine wpQuiet_nil ?_
  intro _ hw'
  obtain ⟨nq, rfl⟩ := hw'
  have H1 := HH.out.drewN nq
  clear HH HN d8
  generalize W.drewN nq = X at *
  go_wp2_with (first
    | (go_at_call 58; refine (storeNumber_any H1 hLd hnn hl hen x hxb 0 (atW c.exp en.now) hc.key hxe).mono ?_; rintro e w3 ⟨own3, rfl, H3⟩; have H4 := H3.rot; clear H3 H1)
    | (refine wpList_store_row rfl 40 _ _ rfl w.heap.size (rsC (numberR (putR sd st c.key (showB (x : Int)) 0 (atW c.exp en.now) en) x).1 none 0) rfl rfl _ (rsC zeroRv none 0) H4.q.1 (res_size _ _ _) rfl (res_one _ _ _) ?_; have H8 := H4.rsRow (numberR (putR sd st c.key (showB (x : Int)) 0 (atW c.exp en.now) en) x).1 none 0))
  exact res_ret rfl H8.q.1 rfl (ends_none rfl (number_val _ _ (put_val _ _ _ _ _ _ _)) H8.right.drop2)
set_option maxRecDepth 100000 in
set_option maxHeartbeats 8000000 in
theorem noZ11_any (H : Law w0 w ((TnP k b c va vc en i ia ic).and ((shQ L b own sd n st).and ((valP 0 ia ic i.val).and R)))) (hLd : Laid w0) (hn : n < 4398046511104) (hl : n ≤ 900 ∨ st.slab.bud ≤ 57600) (hen : en.ok) (hc : c.ok) (hrd : Rd w0 R va vc c.val) (hop : c.op = 11) (hm : c.makes = false) : Calls Tryz.prog 31 #[.pointer (some ⟨k, 0, none⟩)] w (Ends L w0 b sd (n + 1) R (makesR sd st c en)) := by
  have hr : makesR sd st c en = (onlyR 1, st) := by unfold makesR; rw [hop, hm]; rfl
  have H0 := H.boxT (.cells (rsC zeroRv none 0) 40)
  have d1 := tu_op H0.q.1
  rw [← zero_res] at d1
  have hl1 := hl.imp Nat.succ_le_succ id
  have hnn := Nat.le_of_lt hn
  rw [hr]
  clear H hr
  rw [hop] at d1
  have d9 := tu_makes H0.q.1
  rw [hm, ← zero_res] at d9
  go_enter Tryz.func31, Tryz.ntmps31
  go_wp2_with (first
    | (go_at_call 52; refine (only_any 1 _).mono ?_; rintro e w6 ⟨rfl, hg⟩; have H7 := (H0.step hg).right.rot; clear hg H0)
    | (refine wpList_store_row rfl 40 _ _ rfl w.heap.size (rsC (onlyR 1) none 0) rfl rfl _ (rsC zeroRv none 0) H7.q.1 (res_size _ _ _) rfl (res_one _ _ _) ?_; have H8 := H7.rsRow (onlyR 1) none 0))
  exact res_ret rfl H8.q.1 rfl (ends_none rfl rfl (H8.right.drop2.shMono (Nat.le_succ n) hl1))
set_option maxRecDepth 100000 in
set_option maxHeartbeats 8000000 in
theorem noW12_any (H : Law w0 w ((TnP k b c va vc en i ia ic).and ((shQ L b own sd n st).and ((valP 0 ia ic i.val).and R)))) (hLd : Laid w0) (hn : n < 4398046511104) (hl : n ≤ 900 ∨ st.slab.bud ≤ 57600) (hen : en.ok) (hc : c.ok) (hrd : Rd w0 R va vc c.val) (hop : c.op = 12) (hm : c.makes = true) : Calls Tryz.prog 31 #[.pointer (some ⟨k, 0, none⟩)] w (Ends L w0 b sd (n + 1) R (makesR sd st c en)) := by
  have hr : makesR sd st c en = (wonR sd st c en) := by unfold makesR; rw [hop, hm]; rfl
  have H0 := H.boxT (.cells (rsC zeroRv none 0) 40)
  have d1 := tu_op H0.q.1
  rw [← zero_res] at d1
  have hl1 := hl.imp Nat.succ_le_succ id
  have hnn := Nat.le_of_lt hn
  rw [hr]
  clear H hr
  rw [hop] at d1
  have d9 := tu_makes H0.q.1
  rw [hm, ← zero_res] at d9
  go_enter Tryz.func31, Tryz.ntmps31
  go_wp2_with (first
    | (go_at_call 60; refine (makeWon_any H0 hn hl hen hc).mono ?_; rintro e w3 ⟨own3, rfl, H3⟩; have H4 := H3.rot; clear H3 H0)
    | (refine wpList_store_row rfl 40 _ _ rfl w.heap.size (rsC (wonR sd st c en).1 none 0) rfl rfl _ (rsC zeroRv none 0) H4.q.1 (res_size _ _ _) rfl (res_one _ _ _) ?_; have H8 := H4.rsRow (wonR sd st c en).1 none 0))
  exact res_ret rfl H8.q.1 rfl (ends_none rfl (won_val _ _ _ _) H8.right.drop2)
set_option maxRecDepth 100000 in
set_option maxHeartbeats 8000000 in
theorem noZ12_any (H : Law w0 w ((TnP k b c va vc en i ia ic).and ((shQ L b own sd n st).and ((valP 0 ia ic i.val).and R)))) (hLd : Laid w0) (hn : n < 4398046511104) (hl : n ≤ 900 ∨ st.slab.bud ≤ 57600) (hen : en.ok) (hc : c.ok) (hrd : Rd w0 R va vc c.val) (hop : c.op = 12) (hm : c.makes = false) : Calls Tryz.prog 31 #[.pointer (some ⟨k, 0, none⟩)] w (Ends L w0 b sd (n + 1) R (makesR sd st c en)) := by
  have hr : makesR sd st c en = (onlyR 1, st) := by unfold makesR; rw [hop, hm]; rfl
  have H0 := H.boxT (.cells (rsC zeroRv none 0) 40)
  have d1 := tu_op H0.q.1
  rw [← zero_res] at d1
  have hl1 := hl.imp Nat.succ_le_succ id
  have hnn := Nat.le_of_lt hn
  rw [hr]
  clear H hr
  rw [hop] at d1
  have d9 := tu_makes H0.q.1
  rw [hm, ← zero_res] at d9
  go_enter Tryz.func31, Tryz.ntmps31
  go_wp2_with (first
    | (go_at_call 52; refine (only_any 1 _).mono ?_; rintro e w6 ⟨rfl, hg⟩; have H7 := (H0.step hg).right.rot; clear hg H0)
    | (refine wpList_store_row rfl 40 _ _ rfl w.heap.size (rsC (onlyR 1) none 0) rfl rfl _ (rsC zeroRv none 0) H7.q.1 (res_size _ _ _) rfl (res_one _ _ _) ?_; have H8 := H7.rsRow (onlyR 1) none 0))
  exact res_ret rfl H8.q.1 rfl (ends_none rfl rfl (H8.right.drop2.shMono (Nat.le_succ n) hl1))
set_option maxRecDepth 100000 in
set_option maxHeartbeats 8000000 in
theorem noZ0_any (H : Law w0 w ((TnP k b c va vc en i ia ic).and ((shQ L b own sd n st).and ((valP 0 ia ic i.val).and R)))) (hLd : Laid w0) (hn : n < 4398046511104) (hl : n ≤ 900 ∨ st.slab.bud ≤ 57600) (hen : en.ok) (hc : c.ok) (hrd : Rd w0 R va vc c.val) (hop : c.op = 0) : Calls Tryz.prog 31 #[.pointer (some ⟨k, 0, none⟩)] w (Ends L w0 b sd (n + 1) R (makesR sd st c en)) := by
  have hr : makesR sd st c en = (onlyR 1, st) := by unfold makesR; rw [hop]; rfl
  have H0 := H.boxT (.cells (rsC zeroRv none 0) 40)
  have d1 := tu_op H0.q.1
  rw [← zero_res] at d1
  have hl1 := hl.imp Nat.succ_le_succ id
  have hnn := Nat.le_of_lt hn
  rw [hr]
  clear H hr
  rw [hop] at d1
  go_enter Tryz.func31, Tryz.ntmps31
  go_wp2_with (first
    | (go_at_call 52; refine (only_any 1 _).mono ?_; rintro e w6 ⟨rfl, hg⟩; have H7 := (H0.step hg).right.rot; clear hg H0)
    | (refine wpList_store_row rfl 40 _ _ rfl w.heap.size (rsC (onlyR 1) none 0) rfl rfl _ (rsC zeroRv none 0) H7.q.1 (res_size _ _ _) rfl (res_one _ _ _) ?_; have H8 := H7.rsRow (onlyR 1) none 0))
  exact res_ret rfl H8.q.1 rfl (ends_none rfl rfl (H8.right.drop2.shMono (Nat.le_succ n) hl1))
set_option maxRecDepth 100000 in
set_option maxHeartbeats 8000000 in
theorem noZ1_any (H : Law w0 w ((TnP k b c va vc en i ia ic).and ((shQ L b own sd n st).and ((valP 0 ia ic i.val).and R)))) (hLd : Laid w0) (hn : n < 4398046511104) (hl : n ≤ 900 ∨ st.slab.bud ≤ 57600) (hen : en.ok) (hc : c.ok) (hrd : Rd w0 R va vc c.val) (hop : c.op = 1) : Calls Tryz.prog 31 #[.pointer (some ⟨k, 0, none⟩)] w (Ends L w0 b sd (n + 1) R (makesR sd st c en)) := by
  have hr : makesR sd st c en = (onlyR 1, st) := by unfold makesR; rw [hop]; rfl
  have H0 := H.boxT (.cells (rsC zeroRv none 0) 40)
  have d1 := tu_op H0.q.1
  rw [← zero_res] at d1
  have hl1 := hl.imp Nat.succ_le_succ id
  have hnn := Nat.le_of_lt hn
  rw [hr]
  clear H hr
  rw [hop] at d1
  go_enter Tryz.func31, Tryz.ntmps31
  go_wp2_with (first
    | (go_at_call 52; refine (only_any 1 _).mono ?_; rintro e w6 ⟨rfl, hg⟩; have H7 := (H0.step hg).right.rot; clear hg H0)
    | (refine wpList_store_row rfl 40 _ _ rfl w.heap.size (rsC (onlyR 1) none 0) rfl rfl _ (rsC zeroRv none 0) H7.q.1 (res_size _ _ _) rfl (res_one _ _ _) ?_; have H8 := H7.rsRow (onlyR 1) none 0))
  exact res_ret rfl H8.q.1 rfl (ends_none rfl rfl (H8.right.drop2.shMono (Nat.le_succ n) hl1))
set_option maxRecDepth 100000 in
set_option maxHeartbeats 8000000 in
theorem noZ2_any (H : Law w0 w ((TnP k b c va vc en i ia ic).and ((shQ L b own sd n st).and ((valP 0 ia ic i.val).and R)))) (hLd : Laid w0) (hn : n < 4398046511104) (hl : n ≤ 900 ∨ st.slab.bud ≤ 57600) (hen : en.ok) (hc : c.ok) (hrd : Rd w0 R va vc c.val) (hop : c.op = 2) : Calls Tryz.prog 31 #[.pointer (some ⟨k, 0, none⟩)] w (Ends L w0 b sd (n + 1) R (makesR sd st c en)) := by
  have hr : makesR sd st c en = (onlyR 1, st) := by unfold makesR; rw [hop]; rfl
  have H0 := H.boxT (.cells (rsC zeroRv none 0) 40)
  have d1 := tu_op H0.q.1
  rw [← zero_res] at d1
  have hl1 := hl.imp Nat.succ_le_succ id
  have hnn := Nat.le_of_lt hn
  rw [hr]
  clear H hr
  rw [hop] at d1
  go_enter Tryz.func31, Tryz.ntmps31
  go_wp2_with (first
    | (go_at_call 52; refine (only_any 1 _).mono ?_; rintro e w6 ⟨rfl, hg⟩; have H7 := (H0.step hg).right.rot; clear hg H0)
    | (refine wpList_store_row rfl 40 _ _ rfl w.heap.size (rsC (onlyR 1) none 0) rfl rfl _ (rsC zeroRv none 0) H7.q.1 (res_size _ _ _) rfl (res_one _ _ _) ?_; have H8 := H7.rsRow (onlyR 1) none 0))
  exact res_ret rfl H8.q.1 rfl (ends_none rfl rfl (H8.right.drop2.shMono (Nat.le_succ n) hl1))
set_option maxRecDepth 100000 in
set_option maxHeartbeats 8000000 in
theorem noZ8_any (H : Law w0 w ((TnP k b c va vc en i ia ic).and ((shQ L b own sd n st).and ((valP 0 ia ic i.val).and R)))) (hLd : Laid w0) (hn : n < 4398046511104) (hl : n ≤ 900 ∨ st.slab.bud ≤ 57600) (hen : en.ok) (hc : c.ok) (hrd : Rd w0 R va vc c.val) (hop : c.op = 8) : Calls Tryz.prog 31 #[.pointer (some ⟨k, 0, none⟩)] w (Ends L w0 b sd (n + 1) R (makesR sd st c en)) := by
  have hr : makesR sd st c en = (onlyR 1, st) := by unfold makesR; rw [hop]; rfl
  have H0 := H.boxT (.cells (rsC zeroRv none 0) 40)
  have d1 := tu_op H0.q.1
  rw [← zero_res] at d1
  have hl1 := hl.imp Nat.succ_le_succ id
  have hnn := Nat.le_of_lt hn
  rw [hr]
  clear H hr
  rw [hop] at d1
  go_enter Tryz.func31, Tryz.ntmps31
  go_wp2_with (first
    | (go_at_call 52; refine (only_any 1 _).mono ?_; rintro e w6 ⟨rfl, hg⟩; have H7 := (H0.step hg).right.rot; clear hg H0)
    | (refine wpList_store_row rfl 40 _ _ rfl w.heap.size (rsC (onlyR 1) none 0) rfl rfl _ (rsC zeroRv none 0) H7.q.1 (res_size _ _ _) rfl (res_one _ _ _) ?_; have H8 := H7.rsRow (onlyR 1) none 0))
  exact res_ret rfl H8.q.1 rfl (ends_none rfl rfl (H8.right.drop2.shMono (Nat.le_succ n) hl1))
set_option maxRecDepth 100000 in
set_option maxHeartbeats 8000000 in
theorem noZ9_any (H : Law w0 w ((TnP k b c va vc en i ia ic).and ((shQ L b own sd n st).and ((valP 0 ia ic i.val).and R)))) (hLd : Laid w0) (hn : n < 4398046511104) (hl : n ≤ 900 ∨ st.slab.bud ≤ 57600) (hen : en.ok) (hc : c.ok) (hrd : Rd w0 R va vc c.val) (hop : c.op = 9) : Calls Tryz.prog 31 #[.pointer (some ⟨k, 0, none⟩)] w (Ends L w0 b sd (n + 1) R (makesR sd st c en)) := by
  have hr : makesR sd st c en = (onlyR 1, st) := by unfold makesR; rw [hop]; rfl
  have H0 := H.boxT (.cells (rsC zeroRv none 0) 40)
  have d1 := tu_op H0.q.1
  rw [← zero_res] at d1
  have hl1 := hl.imp Nat.succ_le_succ id
  have hnn := Nat.le_of_lt hn
  rw [hr]
  clear H hr
  rw [hop] at d1
  go_enter Tryz.func31, Tryz.ntmps31
  go_wp2_with (first
    | (go_at_call 52; refine (only_any 1 _).mono ?_; rintro e w6 ⟨rfl, hg⟩; have H7 := (H0.step hg).right.rot; clear hg H0)
    | (refine wpList_store_row rfl 40 _ _ rfl w.heap.size (rsC (onlyR 1) none 0) rfl rfl _ (rsC zeroRv none 0) H7.q.1 (res_size _ _ _) rfl (res_one _ _ _) ?_; have H8 := H7.rsRow (onlyR 1) none 0))
  exact res_ret rfl H8.q.1 rfl (ends_none rfl rfl (H8.right.drop2.shMono (Nat.le_succ n) hl1))
theorem onNothing_any (H : Law w0 w ((TnP k b c va vc en i ia ic).and ((shQ L b own sd n st).and ((valP 0 ia ic i.val).and R)))) (hLd : Laid w0) (hn : n < 4398046511104) (hl : n ≤ 900 ∨ st.slab.bud ≤ 57600) (hen : en.ok) (hc : c.ok) (hrd : Rd w0 R va vc c.val) (hop : 0 ≤ c.op ∧ c.op ≤ 12) : Calls Tryz.prog 31 #[.pointer (some ⟨k, 0, none⟩)] w (Ends L w0 b sd (n + 1) R (makesR sd st c en)) := by
  have hcase : c.op = 0 ∨ c.op = 1 ∨ c.op = 2 ∨ c.op = 3 ∨ c.op = 4 ∨ c.op = 5 ∨ c.op = 6 ∨ c.op = 7 ∨ c.op = 8 ∨ c.op = 9 ∨ c.op = 10 ∨ c.op = 11 ∨ c.op = 12 := by omega
  obtain ⟨x, hx⟩ := Int.eq_ofNat_of_zero_le hc.ini.1
  rcases hcase with h | h | h | h | h | h | h | h | h | h | h | h | h
  · exact noZ0_any H hLd hn hl hen hc hrd h
  · exact noZ1_any H hLd hn hl hen hc hrd h
  · exact noZ2_any H hLd hn hl hen hc hrd h
  · by_cases h0 : c.cas = 0
    · exact noS3_any H hLd hn hl hen hc hrd h h0
    · exact noM3_any H hLd hn hl hen hc hrd h h0
  · exact noS4_any H hLd hn hl hen hc hrd h
  · exact noR5_any H hLd hn hl hen hc hrd h
  · exact noR6_any H hLd hn hl hen hc hrd h
  · exact noR7_any H hLd hn hl hen hc hrd h
  · exact noZ8_any H hLd hn hl hen hc hrd h
  · exact noZ9_any H hLd hn hl hen hc hrd h
  · cases hm : c.makes
    · exact noZ10_any H hLd hn hl hen hc hrd h hm
    · exact noN10_any H hLd hn hl hen hc hrd h hm x hx
  · cases hm : c.makes
    · exact noZ11_any H hLd hn hl hen hc hrd h hm
    · exact noN11_any H hLd hn hl hen hc hrd h hm x hx
  · cases hm : c.makes
    · exact noZ12_any H hLd hn hl hen hc hrd h hm
    · exact noW12_any H hLd hn hl hen hc hrd h hm
end
end Go.Proofs.YtkfeafmpaodagaaGreatDoor

namespace Go.Proofs.YtkfeafmpaodagaaGreatDoor
set_option linter.unusedVariables false
open Go.RowKit Go.Shelf Go.Sort
variable {Sh : World → Nat → (Nat → Prop) → Nat → Nat → Hs → Prop}

set_option maxHeartbeats 1000000 in
theorem keyed_any (op : Int) (w : World) : Calls Tryz.prog 13 #[.int .i64 op] w fun e w' => e = .returned (.bool (keyedN op)) ∧ w' = w := by
  by_cases h0 : 0 ≤ op
  · by_cases h1 : op ≤ 12
    · have HK : Hid (keyedN op = true) := decide_eq_true ⟨h0, h1⟩
      go_enter Tryz.func13, Tryz.ntmps13
      go_wp2
      go_ret
      exact ⟨by rw [HK.out]; simp, rfl⟩
    · have HK : Hid (keyedN op = false) := decide_eq_false (by omega)
      have h1' : (12 : Int) < op := by omega
      go_enter Tryz.func13, Tryz.ntmps13
      go_wp2
      go_ret
      exact ⟨by rw [HK.out]; simp, rfl⟩
  · have HK : Hid (keyedN op = false) := decide_eq_false (by omega)
    have h0' : op < 0 := by omega
    go_enter Tryz.func13, Tryz.ntmps13
    go_wp2
    go_ret
    exact ⟨by rw [HK.out]; simp, rfl⟩
set_option maxHeartbeats 1000000 in
theorem withoutKey_any (op : Int) (w : World) : Calls Tryz.prog 28 #[.int .i64 op] w fun e w' => e = .returned (.agg (rsC (if op = 15 then onlyR 11 else onlyR 10) none 0)) ∧ w.grownBy w' none := by
  have H0 := (Law.start w).box (.cells (rsC zeroRv none 0) 40)
  by_cases h : op = 15
  · subst h
    rw [if_pos rfl]
    go_enter Tryz.func28, Tryz.ntmps28
    go_wp2_with (first
      | (go_at_call 52; refine (only_any 11 _).mono ?_; rintro e w6 ⟨rfl, hg⟩; have H7 := H0.step hg; clear hg H0)
      | (refine wpList_store_row rfl 40 _ _ rfl w.heap.size (rsC (onlyR 11) none 0) rfl rfl _ (rsC zeroRv none 0) H7.q.1 (res_size _ _ _) rfl (res_one _ _ _) ?_; have H8 := H7.rsRow (onlyR 11) none 0))
    exact res_ret rfl H8.q.1 rfl ⟨rfl, below_gr' H8.below⟩
  · rw [if_neg h]
    have hb := beq_eq_false_iff_ne.2 h
    clear h
    go_enter Tryz.func28, Tryz.ntmps28
    go_wp2_with (first
      | (go_at_call 52; refine (only_any 10 _).mono ?_; rintro e w6 ⟨rfl, hg⟩; have H7 := H0.step hg; clear hg H0)
      | (refine wpList_store_row rfl 40 _ _ rfl w.heap.size (rsC (onlyR 10) none 0) rfl rfl _ (rsC zeroRv none 0) H7.q.1 (res_size _ _ _) rfl (res_one _ _ _) ?_; have H8 := H7.rsRow (onlyR 10) none 0))
    exact res_ret rfl H8.q.1 rfl ⟨rfl, below_gr' H8.below⟩
section
variable {L : ShardLib Sh} {w0 w : World} {k b sd n : Nat} {own : Nat → Prop} {st : Hs} {c : Cv} {va : Option Addr} {vc : Nat} {en : En} {R : Part}
/-- The cells of a command. -/
theorem cm_cells {g : Nat} {t : TypeId} (h : w.heap[g]? = some (.cells (cmC c va vc) t (0, 0))) : w.cell? ⟨g, 0, none⟩ = some (.int .i64 c.op) ∧ w.cell? ⟨g, 1, none⟩ = some (.string c.key) ∧ w.cell? ⟨g, 2, none⟩ = some (.slice va c.val.length vc) ∧ w.cell? ⟨g, 3, none⟩ = some (.int .u32 c.fl) ∧ w.cell? ⟨g, 4, none⟩ = some (.int .i64 c.exp) ∧ w.cell? ⟨g, 5, none⟩ = some (.int .u64 c.cas) ∧ w.cell? ⟨g, 6, none⟩ = some (.int .u64 c.del) ∧ w.cell? ⟨g, 7, none⟩ = some (.int .u64 c.ini) ∧ w.cell? ⟨g, 8, none⟩ = some (.bool c.makes) ∧ w.cell? ⟨g, 9, none⟩ = some (.bool c.sets) := by
  simp [World.cell?, h, cmC]
abbrev CmP (g : Nat) (c : Cv) (va : Option Addr) (vc : Nat) : Part := boxP g (.cells (cmC c va vc) 33)
abbrev EnP (g : Nat) (en : En) : Part := boxP g (.cells (enC en) 35)
set_option maxRecDepth 100000 in
set_option maxHeartbeats 8000000 in
theorem doNot_any (H : Law w0 w ((shQ L b own sd n st).and R)) (hl : n ≤ 900 ∨ st.slab.bud ≤ 57600) (hk : keyedN c.op = false) :
    Calls Tryz.prog 10 #[.pointer (some ⟨b, 0, none⟩), .agg (cmC c va vc), .agg (enC en)] w (Ends L w0 b sd (n + 1) R (doH sd st c en)) := by
  have hr : doH sd st c en = ((if c.op = 15 then onlyR 11 else onlyR 10), st) := by
    unfold doH
    split
    · rfl
    · rw [if_neg (by rw [hk]; exact Bool.false_ne_true)]
  have hv : (if c.op = 15 then onlyR 11 else onlyR 10 : Rv).val = [] := by split <;> rfl
  have HWK := hide (fun W => withoutKey_any c.op W)
  obtain ⟨r, hr0⟩ : ∃ r, (if c.op = 15 then onlyR 11 else onlyR 10 : Rv) = r := ⟨_, rfl⟩
  rw [hr0] at hr hv HWK
  clear hr0
  rw [hr]
  have H1 := ((H.box (.cells (cmC c va vc) 33)).box (.cells (enC en) 35)).box (.cells (rsC zeroRv none 0) 40)
  rw [World.size_alloc, World.size_alloc] at H1
  have HK := hide (fun W => keyed_any c.op W)
  rw [hk] at HK
  have d0 := (cm_cells H1.right.right.q.1).1
  have hl1 := hl.imp Nat.succ_le_succ id
  clear H hr
  go_enter Tryz.func10, Tryz.ntmps10
  go_upto_region 1 with fail
  rw [zero_res]
  generalize ((w.alloc (.cells (cmC c va vc) 33)).alloc (.cells (enC en) 35)).alloc (.cells (rsC zeroRv none 0) 40) = W at *
  go_wp2_with (first
    | (go_at_call 13; refine (HK.out _).mono ?_; rintro e w1 ⟨rfl, rfl⟩)
    | (go_at_call 28; refine (HWK.out _).mono ?_; rintro e w6 ⟨rfl, hg⟩; have H7 := H1.step hg; clear hg H1)
    | (refine wpList_store_row rfl 40 _ _ rfl (w.heap.size + 1 + 1) (rsC r none 0) rfl rfl _ (rsC zeroRv none 0) H7.q.1 (res_size _ _ _) rfl (res_one _ _ _) ?_; have H8 := H7.rsRow r none 0))
  exact res_ret rfl H8.q.1 rfl (ends_none rfl hv (H8.right.right.right.shMono (Nat.le_succ n) hl1))
theorem shLook_no (H : Law w0 w ((shQ L b own sd n st).and R)) (hn : n ≤ 4398046511104) (s : ByteArray) (hs : s.size ≤ 140737488351232) (en : En) (hen : en.ok) (hy : livingH st s en = none) :
    Calls Tryz.prog 29 #[.pointer (some ⟨b, 0, none⟩), .string s, .agg (enC en)] w fun e w' => e = .returned (.tuple #[.agg (itC zeroIt), .bool false]) ∧ ∃ own', Law w0 w' ((shQ L b own' sd n (lookH st s en)).and R) := by
  refine (shLook_is L H hn s hs en hen).mono ?_
  rintro e w' (⟨h1, h2, own', N⟩ | ⟨y, a, c, h1, _⟩)
  · exact ⟨h2, own', N.drop2⟩
  · rw [h1] at hy
    cases hy
theorem shLook_yes (H : Law w0 w ((shQ L b own sd n st).and R)) (hn : n ≤ 4398046511104) (s : ByteArray) (hs : s.size ≤ 140737488351232) (en : En) (hen : en.ok) (y : Ent) (hy : livingH st s en = some y) :
    Calls Tryz.prog 29 #[.pointer (some ⟨b, 0, none⟩), .string s, .agg (enC en)] w fun e w' => ∃ a c, e = .returned (.tuple #[.agg (itC (itOf y.1 a c)), .bool true]) ∧ ∃ own', Law w0 w' ((shQ L b own' sd n (lookH st s en)).and ((valP 0 a c y.1.val).and R)) := by
  refine (shLook_is L H hn s hs en hen).mono ?_
  rintro e w' (⟨h1, _⟩ | ⟨y', a, c, h1, h2, own', N⟩)
  · rw [h1] at hy
    cases hy
  · rw [h1] at hy
    cases hy
    exact ⟨a, c, h2, own', N⟩
def zeroIvE : Iv := ⟨⟨#[]⟩, [], 0, 0, 0, 0, 0, false, false, false⟩
theorem see_bud (sd : Nat) (h : Hs) (k : ByteArray) (en : En) : (seenH sd h k en).slab.bud = h.slab.bud := look_drops.2.1
set_option maxRecDepth 100000 in
set_option maxHeartbeats 8000000 in
theorem doNone_any (H : Law w0 w ((shQ L b own sd n st).and R)) (hLd : Laid w0) (hn : n < 4398046511104) (hl : n ≤ 900 ∨ st.slab.bud ≤ 57600) (hen : en.ok) (hc : c.ok) (hrd : Rd w0 R va vc c.val) (hk : keyedN c.op = true) (hlv : livingH st c.key en = none) :
    Calls Tryz.prog 10 #[.pointer (some ⟨b, 0, none⟩), .agg (cmC c va vc), .agg (enC en)] w (Ends L w0 b sd (n + 1) R (doH sd st c en)) := by
  have hop := of_decide_eq_true hk
  have hr : doH sd st c en = makesR sd (seenH sd st c.key en) c en := by
    unfold doH
    rw [if_neg (by omega), if_pos hk, hlv]
  rw [hr]
  obtain ⟨T, hT⟩ : ∃ T, seenH sd st c.key en = T := ⟨_, rfl⟩
  have hTU : useH sd (lookH st c.key en) c.key = T := hT
  have hlT : n ≤ 900 ∨ T.slab.bud ≤ 57600 := by rw [← hT, see_bud]; exact hl
  rw [hT]
  have H0 := ((H.box (.cells (cmC c va vc) 33)).box (.cells (enC en) 35)).box (.cells (rsC zeroRv none 0) 40)
  rw [World.size_alloc, World.size_alloc] at H0
  have HK := hide (fun W => keyed_any c.op W)
  rw [hk] at HK
  have HT := hide hTU
  have HLV := hide hlv
  have hnn := Nat.le_of_lt hn
  clear H hr hT hTU hk hlv
  go_enter Tryz.func10, Tryz.ntmps10
  go_upto_region 1 with fail
  rw [zero_res]
  generalize ((w.alloc (.cells (cmC c va vc) 33)).alloc (.cells (enC en) 35)).alloc (.cells (rsC zeroRv none 0) 40) = W at *
  have H1 := f_law (law_f H0).rot4
  have d0 := (cm_cells H0.right.right.q.1).1
  have d1 := (cm_cells H0.right.right.q.1).2.1
  have e0 : W.heap[w.heap.size + 1]? = some (.cells (enC en) 35 (0, 0)) := H0.right.q.1
  clear H0
  go_upto_region 5 with (first
    | (go_at_call 13; refine (HK.out _).mono ?_; rintro e w1 ⟨rfl, rfl⟩)
    | (refine wpList_load_row rfl 35 _ rfl (w.heap.size + 1) rfl _ (enC en) _ _ e0 Tryz.underlying35 rfl (env_size _) ?_)
    | (go_at_call 29; refine (shLook_no H1 hnn c.key hc.key en hen HLV.out).mono ?_; rintro e w2 ⟨rfl, own2, H2⟩; have H3 := (H2.noVal).box (.cells (itC zeroIt) 75); clear H1 H2 d0 d1 e0)
    | (refine wpList_store_row rfl 75 _ _ rfl w2.heap.size (itC zeroIt) rfl rfl _ (itC zeroIt) (World.alloc_heap_new w2 _) (item_size _) rfl (item_one _) ?_; rw [setRow_alloc]; generalize w2.alloc (.cells (itC zeroIt) 75) = w3 at *; have d3 := (cm_cells H3.right.right.right.right.right.q.1).2.1; have H4 := H3.rot; clear H3)
    | (go_at_call 30; refine (shUse_is L H4 hnn c.key hc.key _ HT.out).mono ?_; rintro e w5 ⟨⟨v5, rfl⟩, own5, H5⟩; clear H4 d3; obtain ⟨m0, m1, m2, m3, m4, m5, m6, m7, m8, m9⟩ := cm_cells H5.right.right.right.right.right.q.1; obtain ⟨n0, n1, n2, n3⟩ := en_cells H5.right.right.right.right.q.1; obtain ⟨t0, t1, t2, t3, t4, t5, t6, t7, t8, t9⟩ := it_cells H5.right.q.1))
  clear HK HT HLV
  go_wp2_with (first
    | (go_at_call 31; have H6 := ((H5.box (.cells (tuC b c va vc en (itOf zeroIvE none 0)) 81)).unassoc.rin.assoc); clear m0 m1 m2 m3 m4 m5 m6 m7 m8 m9 n0 n1 n2 n3 t0 t1 t2 t3 t4 t5 t6 t7 t8 t9; refine (onNothing_any H6 hLd hn hlT hen hc hrd.right.right.right.right hop).mono ?_; rintro e w8 ⟨a8, c8, own8, rfl, H8⟩; have H9 := H8.rin.drop2.rin.rot; clear H8 H6 H5)
    | (refine wpList_store_row rfl 40 _ _ rfl (w.heap.size + 1 + 1) (rsC (makesR sd T c en).1 a8 c8) rfl rfl _ (rsC zeroRv none 0) H9.q.1 (res_size _ _ _) rfl (res_one _ _ _) ?_; have H10 := H9.rsRow (makesR sd T c en).1 a8 c8))
  exact res_ret rfl H10.q.1 rfl ⟨a8, c8, own8, rfl, H10.right.rin.drop2.rin.drop2⟩
set_option maxRecDepth 100000 in
set_option maxHeartbeats 8000000 in
theorem doSome_any (H : Law w0 w ((shQ L b own sd n st).and R)) (hLd : Laid w0) (hn : n < 4398046511104) (hl : n ≤ 900 ∨ st.slab.bud ≤ 57600) (hen : en.ok) (hc : c.ok) (hrd : Rd w0 R va vc c.val) (hk : keyedN c.op = true) (y : Ent) (hlv : livingH st c.key en = some y) :
    Calls Tryz.prog 10 #[.pointer (some ⟨b, 0, none⟩), .agg (cmC c va vc), .agg (enC en)] w (Ends L w0 b sd (n + 1) R (doH sd st c en)) := by
  have hop := of_decide_eq_true hk
  have hr : doH sd st c en = hasR sd (seenH sd st c.key en) c en y.1 := by
    unfold doH
    rw [if_neg (by omega), if_pos hk, hlv]
  have hG : GoodH n st := L.good H.q.1
  have hfy : y ∈ st.ents := by
    unfold livingH at hlv
    split at hlv
    · cases hlv
    · rename_i e he
      split at hlv
      · cases hlv
        exact (findE_some he).1
      · cases hlv
  have hiy := (hG.cls y hfy).1
  have hvy := hG.val hfy
  clear hG hfy
  rw [hr]
  obtain ⟨T, hT⟩ : ∃ T, seenH sd st c.key en = T := ⟨_, rfl⟩
  have hTU : useH sd (lookH st c.key en) c.key = T := hT
  have hlT : n ≤ 900 ∨ T.slab.bud ≤ 57600 := by rw [← hT, see_bud]; exact hl
  rw [hT]
  have H0 := ((H.box (.cells (cmC c va vc) 33)).box (.cells (enC en) 35)).box (.cells (rsC zeroRv none 0) 40)
  rw [World.size_alloc, World.size_alloc] at H0
  have HK := hide (fun W => keyed_any c.op W)
  rw [hk] at HK
  have HT := hide hTU
  have HLV := hide hlv
  have hnn := Nat.le_of_lt hn
  clear H hr hT hTU hk hlv
  go_enter Tryz.func10, Tryz.ntmps10
  go_upto_region 1 with fail
  rw [zero_res]
  generalize ((w.alloc (.cells (cmC c va vc) 33)).alloc (.cells (enC en) 35)).alloc (.cells (rsC zeroRv none 0) 40) = W at *
  have H1 := f_law (law_f H0).rot4
  have d0 := (cm_cells H0.right.right.q.1).1
  have d1 := (cm_cells H0.right.right.q.1).2.1
  have e0 : W.heap[w.heap.size + 1]? = some (.cells (enC en) 35 (0, 0)) := H0.right.q.1
  clear H0
  go_upto_region 5 with (first
    | (go_at_call 13; refine (HK.out _).mono ?_; rintro e w1 ⟨rfl, rfl⟩)
    | (refine wpList_load_row rfl 35 _ rfl (w.heap.size + 1) rfl _ (enC en) _ _ e0 Tryz.underlying35 rfl (env_size _) ?_)
    | (go_at_call 29; refine (shLook_yes H1 hnn c.key hc.key en hen y HLV.out).mono ?_; rintro e w2 ⟨a2, c2, rfl, own2, H2⟩; have H3 := H2.box (.cells (itC (itOf y.1 a2 c2)) 75); clear H1 H2 d0 d1 e0)
    | (refine wpList_store_row rfl 75 _ _ rfl w2.heap.size (itC (itOf y.1 a2 c2)) rfl rfl _ (itC zeroIt) (World.alloc_heap_new w2 _) (item_size _) rfl (item_one _) ?_; rw [setRow_alloc]; generalize w2.alloc (.cells (itC (itOf y.1 a2 c2)) 75) = w3 at *; have d3 := (cm_cells H3.right.right.right.right.right.q.1).2.1; have H4 := H3.rot; clear H3)
    | (go_at_call 30; refine (shUse_is L H4 hnn c.key hc.key _ HT.out).mono ?_; rintro e w5 ⟨⟨v5, rfl⟩, own5, H5⟩; clear H4 d3; obtain ⟨m0, m1, m2, m3, m4, m5, m6, m7, m8, m9⟩ := cm_cells H5.right.right.right.right.right.q.1; obtain ⟨n0, n1, n2, n3⟩ := en_cells H5.right.right.right.right.q.1; obtain ⟨t0, t1, t2, t3, t4, t5, t6, t7, t8, t9⟩ := it_cells H5.right.q.1))
  clear HK HT HLV
  go_wp2_with (first
    | (go_at_call 32; have H6 := ((H5.box (.cells (tuC b c va vc en (itOf y.1 a2 c2)) 81)).unassoc.rin.assoc); clear m0 m1 m2 m3 m4 m5 m6 m7 m8 m9 n0 n1 n2 n3 t0 t1 t2 t3 t4 t5 t6 t7 t8 t9; refine (onIt_any H6 hLd hnn hlT hen hc hiy hvy hrd.right.right.right.right hop).mono ?_; rintro e w8 ⟨a8, c8, own8, rfl, H8⟩; have H9 := H8.rin.drop2.rin.rot; clear H8 H6 H5)
    | (refine wpList_store_row rfl 40 _ _ rfl (w.heap.size + 1 + 1) (rsC (hasR sd T c en y.1).1 a8 c8) rfl rfl _ (rsC zeroRv none 0) H9.q.1 (res_size _ _ _) rfl (res_one _ _ _) ?_; have H10 := H9.rsRow (hasR sd T c en y.1).1 a8 c8))
  exact res_ret rfl H10.q.1 rfl ⟨a8, c8, own8, rfl, H10.right.rin.drop2.rin.drop2⟩
/-- Do. -/
theorem do_any (H : Law w0 w ((shQ L b own sd n st).and R)) (hLd : Laid w0) (hn : n < 4398046511104) (hl : n ≤ 900 ∨ st.slab.bud ≤ 57600) (hen : en.ok) (hc : c.ok) (hrd : Rd w0 R va vc c.val) :
    Calls Tryz.prog 10 #[.pointer (some ⟨b, 0, none⟩), .agg (cmC c va vc), .agg (enC en)] w (Ends L w0 b sd (n + 1) R (doH sd st c en)) := by
  cases hk : keyedN c.op with
  | false => exact doNot_any H hl hk
  | true =>
    cases hlv : livingH st c.key en with
    | none => exact doNone_any H hLd hn hl hen hc hrd hk hlv
    | some y => exact doSome_any H hLd hn hl hen hc hrd hk y hlv
end
end Go.Proofs.YtkfeafmpaodagaaGreatDoor
