/- What the document's own list answers: Hit, All and Victim. Conditions: at most 900 keys. -/
import Derived.Test.YtedfhikmlicbgaaSlruRef
namespace Go.Proofs.Ytedfhikmlicbgaa
open Go.RowKit Go.Shelf

section
variable {w0 w : World} {r : Nat} {st : Sr} {vt vs : Value} {R : Part}
set_option maxHeartbeats 2000000 in
theorem rall_is (H : Law w0 w ((refP w0.heap.size r st vt vs).and R)) (hn : (allR st).length ≤ 1000) (xs : List ByteArray) (hx : allR st = xs) :
    Calls Try.prog 22 #[.pointer (some ⟨r, 0, none⟩)] w fun en w' => ∃ v, en = .returned v ∧ Law w0 w' ((keysP w0.heap.size v xs).and ((refP w0.heap.size r st vt vs).and R)) := by
  subst hx
  have hl : st.trial.length + st.safe.length ≤ 1000 := by rw [← List.length_append]; exact hn
  obtain ⟨-, c1, -⟩ := cells3 H.ref.1
  have hB := H.below.size
  have k1 := hide True.intro
  go_enter Try.func22, Try.ntmps22
  go_wp2_with (first
    | (at_builtin; have t := k1; clear t; refine wpList_append_keys rfl _ _ rfl w0.heap.size _ _ _ rfl (World.ownsRow_nil _ _ _ _) _ _ rfl (holds_own H.ref.2.1) (by omega) hB ?_; intro v1 w1 hown1 hg1 hat1; replace H := (H.nil (n0 := w0.heap.size) (e := 9) (size := 1)).app0 hown1 hg1 hat1; clear k1 hown1 hg1 hat1 c1 hB; obtain ⟨-, -, c2⟩ := cells3 H.right.ref.1; have hrow : w1.ownsRow w0.heap.size 9 1 v1 _ _ := H.q.1; have hB := H.below.size)
    | (at_builtin; refine wpList_append_keys rfl _ _ rfl w0.heap.size _ _ _ rfl hrow _ _ rfl H.right.ref.2.2 (by omega) hB ?_; intro v2 w2 hown2 hg2 hat2; replace H := H.app0 hown2 hg2 hat2; clear hown2 hg2 hat2 c2 hB))
  go_ret
  refine ⟨_, rfl, ?_⟩
  have e1 : strV (allR st) = [] ++ strV st.trial ++ strV st.safe := by unfold allR strV; simp
  have e2 : (allR st).length = 0 + st.trial.length + st.safe.length := by unfold allR; rw [List.length_append]; omega
  unfold keysP
  rw [e1, e2]
  exact H
theorem vic_none {l : List ByteArray} {s : ByteArray} (h : ∀ x ∈ l, x = s) : l.find? (fun x => decide (x ≠ s)) = none := by
  rw [List.find?_eq_none]
  intro x hx
  simp [h x hx]
theorem vic_some {l m : List ByteArray} {x s : ByteArray} (h : ∀ y ∈ l, y = s) (hx : x ≠ s) : (l ++ x :: m).find? (fun x => decide (x ≠ s)) = some x := by
  rw [List.find?_append, vic_none h]
  simp [hx]
set_option maxHeartbeats 2000000 in
theorem rvic_is (H : Law w0 w ((refP w0.heap.size r st vt vs).and R)) (hn : (allR st).length ≤ 1000) (s : ByteArray) (x : ByteArray) (q : Bool) (hx : (vicR st s).getD ⟨#[]⟩ = x) (hq : (vicR st s).isSome = q) :
    Calls Try.prog 19 #[.pointer (some ⟨r, 0, none⟩), .string s] w fun en w' => en = .returned (.tuple #[.string x, .bool q]) ∧ Law w0 w' ((refP w0.heap.size r st vt vs).and R) := by
  subst hx hq
  obtain ⟨xs, hxs⟩ : ∃ xs, allR st = xs := ⟨_, rfl⟩
  obtain ⟨n, hnn⟩ : ∃ n, xs.length = n := ⟨_, rfl⟩
  have HX := hide hxs
  have HN := hide hnn
  have hn1 : n ≤ 1000 := by rw [← hnn, ← hxs]; exact hn
  have HV : Hid (vicR st s = xs.find? fun x => decide (x ≠ s)) := by show _ = _; rw [← hxs]; rfl
  clear hxs hnn
  go_enter Try.func19, Try.ntmps19
  go_wp2_with (go_at_call 22; refine (rall_is H hn _ HX.out).mono ?_; clear H; rintro e w1 ⟨v, rfl, H⟩; obtain ⟨pv, cv, rfl⟩ := own_shape H.q.1; unfold keysP at H; rw [HN.out] at H ⊢)
  go_loopw [7] (fun i wr => ∃ k : Nat, k ≤ n ∧ i = .int .i64 k ∧ (∀ y ∈ xs.take k, y = s) ∧ Law w0 wr ((rowP w0.heap.size 9 1 (.slice pv n cv) n (strV xs)).and ((refP w0.heap.size r st vt vs).and R))) (fun i _ => n - (intOf i).toNat)
  case atStart => exact ⟨0, Nat.zero_le _, rfl, fun y hy => by simp at hy, H⟩
  case round =>
    clear H
    obtain ⟨k, hk, rfl, hall, H⟩ := hrel
    by_cases hlt : k < n
    · have hkx : k < xs.length := by rw [HN.out]; exact hlt
      obtain ⟨g, rfl, c1⟩ := key_cell H.q.1 k hkx HN.out
      have hki : (k : Int) < (n : Int) := by omega
      by_cases he : xs[k] = s
      · have HA : Hid (∀ y ∈ xs.take (k + 1), y = s) := by
          show ∀ y ∈ xs.take (k + 1), y = s
          rw [List.take_succ_eq_append_getElem hkx]
          intro y hy
          rcases List.mem_append.1 hy with hy | hy
          · exact hall y hy
          · rw [List.mem_singleton] at hy
            rw [hy, he]
        rw [he] at c1
        clear hall he
        go_wp2
        go_roundw
        case rel => exact ⟨k + 1, by omega, by go_num, HA.out, H⟩
        case measure => simp [intOf]; omega
      · have hne := str_ne he
        have HA : Hid (vicR st s = some xs[k]) := by
          show _ = _
          rw [HV.out]
          have e : xs = xs.take k ++ xs[k] :: xs.drop (k + 1) := by rw [← List.drop_eq_getElem_cons hkx, List.take_append_drop]
          generalize hzz : xs[k] = z at *
          rw [e]
          exact vic_some hall he
        clear hall he
        generalize xs[k] = z at *
        go_wp2
        go_ret2
        exact ⟨by rw [HA.out]; rfl, H.right⟩
    · obtain rfl : k = n := by omega
      have HA : Hid (vicR st s = none) := by
        show _ = _
        rw [HV.out]
        exact vic_none fun y hy => hall y (by rw [← HN.out, List.take_length]; exact hy)
      clear hall
      go_wp2
      go_ret2
      exact ⟨by rw [HA.out]; rfl, H.right⟩
/-- A key is appended to those protected. -/
theorem hit_app {w1 : World} {vt vs v' : Value} {ts ss : List ByteArray} {m : Int} {s : ByteArray} {tmp : Obj} (H : Law w0 w ((boxP r (.cells #[.int .i64 m, vt, vs] 30)).and ((keysP w0.heap.size vt ts).and ((keysP w0.heap.size vs ss).and R)))) (hown : w1.ownsRow w0.heap.size 9 1 v' (ss.length + 1) (strV ss ++ [.string s])) (hgrow : (w.alloc tmp).grownBy w1 vs.ownBlock) (hat : v'.ownBlock = vs.ownBlock ∨ v'.ownBlock = some (w.alloc tmp).heap.size) :
    w1.frozen? ⟨r, 2, none⟩ = false ∧ w1.cell? ⟨r, 2, none⟩ = some vs ∧ Law w0 (w1.setCell ⟨r, 2, none⟩ v') ((boxP r (.cells #[.int .i64 m, vt, v'] 30)).and ((keysP w0.heap.size vt ts).and ((keysP w0.heap.size v' (ss ++ [s])).and R))) := by
  have H1 := (H.rin.rot.app hown hgrow hat).rot
  refine ⟨frozen_of_row w1 r 2 _ _ H1.q.1, (cells3 H1.q.1).2.2, ?_⟩
  have H2 := (H1.setAt 2 v').rin
  unfold keysP
  rw [List.length_append, strV_app]
  exact H2
/-- What is left of a row behind its first one. -/
theorem tail_holds {g n cap : Nat} {x : ByteArray} {l : List ByteArray} (h : w.ownsRow w0.heap.size 9 1 (.slice (some ⟨g, 0, none⟩) n cap) n (strV (x :: l))) (hn : (x :: l).length = n) :
    ∃ ad : Addr, (if cap = 1 then some (⟨g, 0, none⟩ : Addr) else some ⟨g, 1, none⟩) = some ad ∧ (Value.slice (some ad) (n - 1) (cap - 1)).ownBlock = some g ∧ HoldsS w (.slice (some ad) (n - 1) (cap - 1)) l := by
  have hc := own_cap h
  have hl : l.length = n - 1 := by rw [← hn]; rfl
  have hcell : ∀ i, i < l.length → w.cell? ⟨g, 1 + i, none⟩ = some (.string (l.getD i ⟨#[]⟩)) := by
    intro i hi
    rw [h.cellAt (1 + i) (by rw [← hn, List.length_cons]; omega), strV, List.getElem?_map, Nat.add_comm, List.getElem?_cons_succ, List.getElem?_eq_getElem hi]
    simp [List.getD, List.getElem?_eq_getElem hi]
  by_cases hce : cap = 1
  · refine ⟨⟨g, 0, none⟩, by rw [if_pos hce], rfl, some ⟨g, 0, none⟩, cap - 1, by rw [hl], fun i hi => ?_, fun e => by cases e⟩
    omega
  · refine ⟨⟨g, 1, none⟩, by rw [if_neg hce], rfl, some ⟨g, 1, none⟩, cap - 1, by rw [hl], fun i hi => ⟨g, 1, rfl, hcell i hi⟩, fun e => by cases e⟩
/-- The first one protected goes back on trial. -/
theorem hit_tail {vt vs : Value} {ad : Addr} {g n cap : Nat} {ts l : List ByteArray} {m : Int} {x : ByteArray} (H : Law w0 w ((boxP r (.cells #[.int .i64 m, vt, vs] 30)).and ((keysP w0.heap.size vt ts).and ((keysP w0.heap.size vs (x :: l)).and R)))) (hv : vs.ownBlock = some g) (ho : (Value.slice (some ad) n cap).ownBlock = some g) (hh : HoldsS w (.slice (some ad) n cap) l) :
    Law w0 (w.setCell ⟨r, 2, none⟩ (.slice (some ad) n cap)) ((refP w0.heap.size r ⟨m, ts, l⟩ vt (.slice (some ad) n cap)).and R) := by
  have H1 := H.rin.rot.weak1 (A' := readP (.slice (some ad) n cap) l) (fun _ => hh) (fun k hk => by
    have hk' : (Value.slice (some ad) n cap).ownBlock = some k := hk
    rw [ho] at hk'
    show vs.ownBlock = some k
    rw [hv, hk'])
  have H2 := H1.rot.setAt 2 (.slice (some ad) n cap)
  exact Law.shut (st := ⟨m, ts, l⟩) H2.rin
set_option maxRecDepth 100000 in
set_option maxHeartbeats 4000000 in
theorem rhit_is (H : Law w0 w ((refP w0.heap.size r st vt vs).and R)) (hn : (allR st).length ≤ 900) (s : ByteArray) (e : Int) (t : Sr) (he : remErr st s = e) (ht : hitR st s = t) :
    Calls Try.prog 15 #[.pointer (some ⟨r, 0, none⟩), .string s] w fun en w' => en = .returned (.int .i64 e) ∧ ∃ vt' vs', Law w0 w' ((refP w0.heap.size r t vt' vs').and R) := by
  subst he ht
  obtain ⟨i0, hi, hz0, hz1, hz2⟩ := info_parts info_str
  by_cases hm : s ∈ allR st
  · rw [rem_in hm]
    have hl : st.trial.length + st.safe.length ≤ 900 := by rw [← List.length_append]; exact hn
    have hw1 := without_le st.trial s
    have hw2 := without_le st.safe s
    obtain ⟨mo, hmo⟩ : ∃ m, st.most = m := ⟨_, rfl⟩
    have HT : Hid (hitR st s = spill ⟨mo, without st.trial s, without st.safe s ++ [s]⟩) := by
      show _ = _
      unfold hitR
      rw [if_pos (hasK_iff.2 hm), hmo]
    go_enter Try.func15, Try.ntmps15
    go_upto_region 4 with (go_at_call 17; refine (rrem_is H (by omega) s hm).mono ?_; clear H; rintro e w1 ⟨rfl, vt', vs', H⟩)
    rw [hmo] at H
    generalize without st.trial s = ts at *
    generalize without st.safe s = ss at *
    obtain ⟨c0, c1, c2⟩ := cells3 H.q.1
    have hrow : w1.ownsRow w0.heap.size 9 1 vs' ss.length (strV ss) := H.q.2.1.2.1.1
    have hB := H.below.size
    clear hmo hm
    go_upto_region 5 with (at_builtin; refine wpList_append_own_at _ rfl _ _ 28 rfl w0.heap.size 9 i0 (.string ⟨#[]⟩) 1 16 Try.underlying28 hi hz0 hz1 hz2 rfl (by decide) _ _ _ rfl (hrow.alloc _) ⟨_, 0, none⟩ 1 1 [.string s] rfl rfl (cell_one_new _ _ _) (by simp [Value.oneCell']) (by unfold maxLen; omega) (by omega) (by simp; omega) ?_; intro v' w2 hown' hgrow _ hat; obtain ⟨g', cap', rfl⟩ := ownsRow_succ hown'; obtain ⟨hf, hc, H2⟩ := hit_app H hown' hgrow hat)
    obtain ⟨xs, hxs⟩ : ∃ xs, ss ++ [s] = xs := ⟨_, rfl⟩
    have hxl : xs.length = ss.length + 1 := by rw [← hxs]; simp
    rw [hxs] at H2 HT
    clear c0 c1 c2 hf hc hown' hgrow hat hrow hB hxs H
    obtain ⟨W, hW⟩ : ∃ W, w2.setCell ⟨r, 2, none⟩ (.slice (some ⟨g', 0, none⟩) (ss.length + 1) cap') = W := ⟨_, rfl⟩
    rw [hW] at H2 ⊢
    clear hW
    obtain ⟨n, hnn⟩ : ∃ n, ss.length + 1 = n := ⟨_, rfl⟩
    rw [hnn] at H2 hxl ⊢
    have hn1 : 1 ≤ n := by omega
    have hn9 : n ≤ 901 := by omega
    have hn0 : (0 : Int) < (n : Int) := by omega
    clear hnn hw2 hn
    obtain ⟨c0, -, c2⟩ := cells3 H2.q.1
    by_cases hc : mo < (n : Int)
    · have hd : decide (mo < (n : Int)) = true := decide_eq_true hc
      obtain ⟨x, l, rfl⟩ : ∃ x l, xs = x :: l := List.exists_cons_of_length_pos (by omega)
      have HS : Hid (spill ⟨mo, ts, x :: l⟩ = ⟨mo, ts ++ [x], l⟩) := by
        show _ = _
        unfold spill
        rw [if_pos (by show mo < ((x :: l).length : Int); rw [hxl]; exact hc)]
      clear hc
      go_wp2
      go_quiet (fail)
      have H3 := H2.drewN nq
      generalize W.drewN nq = V at H3 ⊢
      clear H2 c0 c2
      have hrowS : V.ownsRow w0.heap.size 9 1 (.slice (some ⟨g', 0, none⟩) n cap') n (strV (x :: l)) := by
        have := H3.q.2.1.2.1.1
        unfold keysP at this
        rw [hxl] at this
        exact this
      obtain ⟨-, -, c2⟩ := cells3 H3.q.1
      obtain ⟨_, e0, cx⟩ := key_cell' hrowS 0 x rfl hxl
      cases e0
      have hcap := own_cap hrowS
      unfold maxLen at hcap
      obtain ⟨hcap1, hcap2⟩ := hcap
      obtain ⟨ad, had, hob, hrd⟩ := tail_holds hrowS hxl
      have H4 := hit_tail H3 rfl hob hrd
      have f2 := frozen_of_row V r 2 _ _ H3.q.1
      obtain ⟨-, c1, -⟩ := cells3 H4.ref.1
      have hrow : (V.setCell ⟨r, 2, none⟩ (.slice (some ad) (n - 1) (cap' - 1))).ownsRow w0.heap.size 9 1 vt' ts.length (strV ts) := H4.ref.2.1
      have hB := H4.below.size
      clear hrd hob hxl hrowS H3
      go_upto_region 8 with fail
      generalize V.setCell ⟨r, 2, none⟩ (.slice (some ad) (n - 1) (cap' - 1)) = U at *
      go_wp2_with (at_builtin; refine wpList_append_own_at _ rfl _ _ 28 rfl w0.heap.size 9 i0 (.string ⟨#[]⟩) 1 16 Try.underlying28 hi hz0 hz1 hz2 rfl (by decide) _ _ _ rfl (hrow.alloc _) ⟨_, 0, none⟩ 1 1 [.string x] rfl rfl (cell_one_new _ _ _) (by simp [Value.oneCell']) (by unfold maxLen; omega) (by omega) (by simp; omega) ?_; intro v' w3 hown' hgrow _ hat; obtain ⟨g2, cap2, rfl⟩ := ownsRow_succ hown'; obtain ⟨hf, hc, H5⟩ := ref_app H4 hown' hgrow hat)
      go_ret
      exact ⟨rfl, _, _, by rw [HT.out, HS.out]; exact H5⟩
    · have hc' : (n : Int) ≤ mo := Int.not_lt.1 hc
      have HS : Hid (spill ⟨mo, ts, xs⟩ = ⟨mo, ts, xs⟩) := by
        show _ = _
        unfold spill
        rw [if_neg (by rw [hxl]; exact hc)]
      have hd : decide (mo < (n : Int)) = false := decide_eq_false hc
      clear hc
      go_wp2
      go_quiet (fail)
      go_wp2
      go_ret
      refine ⟨rfl, vt', .slice (some ⟨g', 0, none⟩) n cap', ?_⟩
      rw [HT.out, HS.out]
      refine Law.shut (st := ⟨mo, ts, xs⟩) ?_
      exact ((H2.rin.rot.weak1 (A' := readP _ xs) (fun h => holds_own h) (fun k hk => hk)).rot.rin).drewN _
  · rw [(rem_out hm).1, hit_out hm]
    go_enter Try.func15, Try.ntmps15
    go_wp2_with (go_at_call 17; refine (rremNot_is H (by omega) s hm).mono ?_; clear H; rintro e w1 ⟨rfl, H⟩)
    go_ret
    exact ⟨rfl, _, _, H⟩
theorem rrem_all (H : Law w0 w ((refP w0.heap.size r st vt vs).and R)) (hn : (allR st).length ≤ 900) (s : ByteArray) (e : Int) (t : Sr) (he : remErr st s = e) (ht : remR st s = t) :
    Calls Try.prog 17 #[.pointer (some ⟨r, 0, none⟩), .string s] w fun en w' => en = .returned (.int .i64 e) ∧ ∃ vt' vs', Law w0 w' ((refP w0.heap.size r t vt' vs').and R) := by
  subst he ht
  by_cases hm : s ∈ allR st
  · rw [rem_in hm]
    refine (rrem_is H (by omega) s hm).mono ?_
    rintro e w1 ⟨rfl, vt', vs', H1⟩
    exact ⟨rfl, vt', vs', Law.shut (st := remR st s) (H1.rin.rot.weak1 (A' := readP vs' (without st.safe s)) (fun h => holds_own h) (fun k hk => hk)).rot.rin⟩
  · rw [(rem_out hm).1, (rem_out hm).2]
    exact (rremNot_is H (by omega) s hm).mono fun _ _ h => ⟨h.1, _, _, h.2⟩
end
end Go.Proofs.Ytedfhikmlicbgaa
