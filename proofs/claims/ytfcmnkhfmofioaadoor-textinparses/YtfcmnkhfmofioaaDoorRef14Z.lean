/- The document's own Parse of the text dialect answers what chapter 14 says of any bytes. Conditions: at most 5000 bytes. -/
import Derived.Test.YtfcmnkhfmofioaaDoorRef14U
import Derived.Test.YtfcmnkhfmofioaaDoorRef14V
import Derived.Test.YtfcmnkhfmofioaaDoorRef14W
import Derived.Test.YtfcmnkhfmofioaaDoorRef14X
import Derived.Test.YtfcmnkhfmofioaaDoorRef14Y
import Derived.Test.YtfcmnkhfmofioaaDoorRef14R
import Derived.Test.YtfcmnkhfmofioaaDoorG11Joined
namespace Go.Proofs.YtfcmnkhfmofioaaDoor
set_option linter.unusedVariables false
open Go.RowKit

theorem q_ways {v : List UInt8} (ws : List (List UInt8)) (hf : v ≠ vb_flush) (hM : 1 ≤ rmanyN v) :
    (∃ ws1, ws = ws1 ++ [t_noreply] ∧ rquiet v ws = true ∧ (((ws1.length + 2 : Nat) : Int) == rmanyN v + 1) = true) ∨
    (∃ ws1 y, ws = ws1 ++ [y] ∧ (y == t_noreply) = false ∧ rquiet v ws = false ∧ (((ws1.length + 2 : Nat) : Int) == rmanyN v + 1) = true) ∨
    (rquiet v ws = false ∧ (((ws.length + 1 : Nat) : Int) == rmanyN v + 1) = false) := by
  have rq : rquiet v ws = (decide (ws ≠ []) && decide ((ws.length : Int) = rmanyN v) && decide (ws.getLast? = some t_noreply)) := by
    unfold rquiet
    rw [decide_eq_false (p := v = vb_flush ∧ ws.length ≤ 2) (fun e => hf e.1), Bool.or_false]
  by_cases hb : (ws.length : Int) = rmanyN v
  · have hne : ws ≠ [] := by
      intro e
      subst e
      simp at hb
      omega
    obtain ⟨ws1, y, rfl⟩ : ∃ ws1 y, ws = ws1 ++ [y] := ⟨ws.dropLast, ws.getLast hne, (List.dropLast_concat_getLast hne).symm⟩
    have hl : (((ws1.length + 2 : Nat) : Int) == rmanyN v + 1) = true := by
      rw [beq_iff_eq, ← hb]
      simp
      omega
    by_cases hy : y = t_noreply
    · subst hy
      refine .inl ⟨ws1, rfl, ?_, hl⟩
      rw [rq, decide_eq_true hb]
      simp
    · refine .inr (.inl ⟨ws1, y, rfl, by rw [beq_eq_false_iff_ne]; exact hy, ?_, hl⟩)
      rw [rq, decide_eq_false (p := (ws1 ++ [y]).getLast? = some t_noreply) (by simpa using hy), Bool.and_false]
  · refine .inr (.inr ⟨?_, ?_⟩)
    · rw [rq, decide_eq_false hb]
      simp
    · rw [beq_eq_false_iff_ne]
      intro e
      apply hb
      have : ((ws.length + 1 : Nat) : Int) = (ws.length : Int) + 1 := by omega
      omega
section
variable {w : World} {a : Option Addr} {len cap : Nat} {l x1 v : List UInt8} {ws : List (List UInt8)} {u : Nat}
theorem ge_of {n : Nat} (h : 2 ≤ n) : (1 : Int) < (n : Int) := by omega
theorem rp_S (h : Bu w a len cap l) (hlen : len ≤ 5000) (hL : lineN l = (x1, (u : Int), 0)) (hx : x1.length ≤ 2048) (hu : u ≤ len) (hw : wordsL x1 = v :: ws) (ng : NoAsk v) (hf : v ≠ vb_flush) (ho : 0 ≤ ropN v) (hM : 1 ≤ rmanyN v) : Calls Tryd.prog 8 #[.slice a len cap] w fun e w' => ParseEnd (rstoresN v (if rquiet v ws then ws.dropLast else ws) (rquiet v ws) (u : Int) (l.drop u)) w e w' := by
  have hf2 : (v == vb_flush) = false := by rw [beq_eq_false_iff_ne]; exact hf
  rcases q_ways ws hf hM with ⟨ws1, rfl, hq, hb⟩ | ⟨ws1, y, rfl, hy, hq, hb⟩ | ⟨hq, hb⟩
  · rw [hq, if_pos rfl, List.dropLast_concat]
    exact rp_S_yes h hlen hL hx hu hw rfl ng hf2 ho hb (ge_of (by omega))
  · rw [hq, if_neg (by simp)]
    exact rp_S_last h hlen hL hx hu hw rfl ng hf2 ho hb (ge_of (by omega)) hy
  · rw [hq, if_neg (by simp)]
    by_cases h1 : (1 : Int) < ((ws.length + 1 : Nat) : Int)
    · exact rp_S_few h hlen hL hx hu hw rfl ng hf2 ho hb h1
    · exact rp_S_one h hlen hL hx hu hw rfl ng hf2 ho hb h1
theorem rp_delete (h : Bu w a len cap l) (hlen : len ≤ 5000) (hL : lineN l = (x1, (u : Int), 0)) (hx : x1.length ≤ 2048) (hu : u ≤ len) (hw : wordsL x1 = vb_delete :: ws) : Calls Tryd.prog 8 #[.slice a len cap] w fun e w' => ParseEnd (rothersN vb_delete (if rquiet vb_delete ws then ws.dropLast else ws) (rquiet vb_delete ws) (u : Int)) w e w' := by
  have hM : rmanyN vb_delete + 1 = 3 := by decide
  have hqw := q_ways (v := vb_delete) ws (by decide) (by decide)
  rw [hM] at hqw
  rcases hqw with ⟨ws1, rfl, hq, hb⟩ | ⟨ws1, y, rfl, hy, hq, hb⟩ | ⟨hq, hb⟩
  · rw [hq, if_pos rfl, List.dropLast_concat]
    exact rp_delete_yes h hlen hL hx hu hw rfl hb (ge_of (by omega))
  · rw [hq, if_neg (by simp)]
    exact rp_delete_last h hlen hL hx hu hw rfl hb (ge_of (by omega)) hy
  · rw [hq, if_neg (by simp)]
    by_cases h1 : (1 : Int) < ((ws.length + 1 : Nat) : Int)
    · exact rp_delete_few h hlen hL hx hu hw rfl hb h1
    · exact rp_delete_one h hlen hL hx hu hw rfl hb h1
theorem rp_incr (h : Bu w a len cap l) (hlen : len ≤ 5000) (hL : lineN l = (x1, (u : Int), 0)) (hx : x1.length ≤ 2048) (hu : u ≤ len) (hw : wordsL x1 = vb_incr :: ws) : Calls Tryd.prog 8 #[.slice a len cap] w fun e w' => ParseEnd (rothersN vb_incr (if rquiet vb_incr ws then ws.dropLast else ws) (rquiet vb_incr ws) (u : Int)) w e w' := by
  have hM : rmanyN vb_incr + 1 = 4 := by decide
  have hqw := q_ways (v := vb_incr) ws (by decide) (by decide)
  rw [hM] at hqw
  rcases hqw with ⟨ws1, rfl, hq, hb⟩ | ⟨ws1, y, rfl, hy, hq, hb⟩ | ⟨hq, hb⟩
  · rw [hq, if_pos rfl, List.dropLast_concat]
    exact rp_incr_yes h hlen hL hx hu hw rfl hb (ge_of (by omega))
  · rw [hq, if_neg (by simp)]
    exact rp_incr_last h hlen hL hx hu hw rfl hb (ge_of (by omega)) hy
  · rw [hq, if_neg (by simp)]
    by_cases h1 : (1 : Int) < ((ws.length + 1 : Nat) : Int)
    · exact rp_incr_few h hlen hL hx hu hw rfl hb h1
    · exact rp_incr_one h hlen hL hx hu hw rfl hb h1
theorem rp_decr (h : Bu w a len cap l) (hlen : len ≤ 5000) (hL : lineN l = (x1, (u : Int), 0)) (hx : x1.length ≤ 2048) (hu : u ≤ len) (hw : wordsL x1 = vb_decr :: ws) : Calls Tryd.prog 8 #[.slice a len cap] w fun e w' => ParseEnd (rothersN vb_decr (if rquiet vb_decr ws then ws.dropLast else ws) (rquiet vb_decr ws) (u : Int)) w e w' := by
  have hM : rmanyN vb_decr + 1 = 4 := by decide
  have hqw := q_ways (v := vb_decr) ws (by decide) (by decide)
  rw [hM] at hqw
  rcases hqw with ⟨ws1, rfl, hq, hb⟩ | ⟨ws1, y, rfl, hy, hq, hb⟩ | ⟨hq, hb⟩
  · rw [hq, if_pos rfl, List.dropLast_concat]
    exact rp_decr_yes h hlen hL hx hu hw rfl hb (ge_of (by omega))
  · rw [hq, if_neg (by simp)]
    exact rp_decr_last h hlen hL hx hu hw rfl hb (ge_of (by omega)) hy
  · rw [hq, if_neg (by simp)]
    by_cases h1 : (1 : Int) < ((ws.length + 1 : Nat) : Int)
    · exact rp_decr_few h hlen hL hx hu hw rfl hb h1
    · exact rp_decr_one h hlen hL hx hu hw rfl hb h1
theorem rp_touch (h : Bu w a len cap l) (hlen : len ≤ 5000) (hL : lineN l = (x1, (u : Int), 0)) (hx : x1.length ≤ 2048) (hu : u ≤ len) (hw : wordsL x1 = vb_touch :: ws) : Calls Tryd.prog 8 #[.slice a len cap] w fun e w' => ParseEnd (rothersN vb_touch (if rquiet vb_touch ws then ws.dropLast else ws) (rquiet vb_touch ws) (u : Int)) w e w' := by
  have hM : rmanyN vb_touch + 1 = 4 := by decide
  have hqw := q_ways (v := vb_touch) ws (by decide) (by decide)
  rw [hM] at hqw
  rcases hqw with ⟨ws1, rfl, hq, hb⟩ | ⟨ws1, y, rfl, hy, hq, hb⟩ | ⟨hq, hb⟩
  · rw [hq, if_pos rfl, List.dropLast_concat]
    exact rp_touch_yes h hlen hL hx hu hw rfl hb (ge_of (by omega))
  · rw [hq, if_neg (by simp)]
    exact rp_touch_last h hlen hL hx hu hw rfl hb (ge_of (by omega)) hy
  · rw [hq, if_neg (by simp)]
    by_cases h1 : (1 : Int) < ((ws.length + 1 : Nat) : Int)
    · exact rp_touch_few h hlen hL hx hu hw rfl hb h1
    · exact rp_touch_one h hlen hL hx hu hw rfl hb h1
theorem rp_flush (h : Bu w a len cap l) (hlen : len ≤ 5000) (hL : lineN l = (x1, (u : Int), 0)) (hx : x1.length ≤ 2048) (hu : u ≤ len) (hw : wordsL x1 = vb_flush :: ws) : Calls Tryd.prog 8 #[.slice a len cap] w fun e w' => ParseEnd (rothersN vb_flush (if rquiet vb_flush ws then ws.dropLast else ws) (rquiet vb_flush ws) (u : Int)) w e w' := by
  have hr : rmanyN vb_flush = 0 := by decide
  by_cases h0 : ws = []
  · subst h0
    have hq : rquiet vb_flush [] = false := rfl
    rw [hq, if_neg (by simp)]
    exact rp_flush_one h hlen hL hx hu hw rfl (by decide)
  by_cases h2 : ws.length ≤ 2
  · obtain ⟨ws1, y, rfl⟩ : ∃ ws1 y, ws = ws1 ++ [y] := ⟨ws.dropLast, ws.getLast h0, (List.dropLast_concat_getLast h0).symm⟩
    have hb : (((ws1.length + 2 : Nat) : Int) == 1) = false := by rw [beq_eq_false_iff_ne]; omega
    have h3 : decide (((ws1.length + 2 : Nat) : Int) ≤ 3) = true := by simp at h2 ⊢; omega
    by_cases hy : y = t_noreply
    · subst hy
      have hq : rquiet vb_flush (ws1 ++ [t_noreply]) = true := by
        unfold rquiet
        rw [decide_eq_true (p := vb_flush = vb_flush ∧ (ws1 ++ [t_noreply]).length ≤ 2) ⟨rfl, h2⟩]
        simp
      rw [hq, if_pos rfl, List.dropLast_concat]
      exact rp_flush_yes h hlen hL hx hu hw rfl hb (ge_of (by omega)) h3
    · have hq : rquiet vb_flush (ws1 ++ [y]) = false := by
        unfold rquiet
        rw [decide_eq_false (p := (ws1 ++ [y]).getLast? = some t_noreply) (by simpa using hy), Bool.and_false]
      rw [hq, if_neg (by simp)]
      exact rp_flush_last h hlen hL hx hu hw rfl hb (ge_of (by omega)) h3 (by rw [beq_eq_false_iff_ne]; exact hy)
  · have hq : rquiet vb_flush ws = false := by
      unfold rquiet
      rw [hr, decide_eq_false (p := (ws.length : Int) = 0) (by omega), decide_eq_false (p := vb_flush = vb_flush ∧ ws.length ≤ 2) (fun e => h2 e.2)]
      simp
    rw [hq, if_neg (by simp)]
    exact rp_flush_few h hlen hL hx hu hw rfl (by rw [beq_eq_false_iff_ne]; omega) (ge_of (by omega)) (by omega)
theorem rp_E (h : Bu w a len cap l) (hlen : len ≤ 5000) (hL : lineN l = (x1, (u : Int), 0)) (hx : x1.length ≤ 2048) (hu : u ≤ len) (hw : wordsL x1 = v :: ws) (nv : NoVerb v) : Calls Tryd.prog 8 #[.slice a len cap] w fun e w' => ParseEnd (refuseS t_ERROR (u : Int)) w e w' := by
  have ng : NoAsk v := ⟨nv.get_, nv.gets_, nv.gat_, nv.gats_, nv.version_, nv.quit_⟩
  by_cases h0 : ws = []
  · subst h0
    exact rp_E_one h hlen hL hx hu hw rfl ng nv (by decide)
  · have := List.length_pos_iff.2 h0
    exact rp_E_few h hlen hL hx hu hw rfl ng nv (by rw [beq_eq_false_iff_ne]; omega) (ge_of (by omega))
theorem rparse_line (h : Bu w a len cap l) (hlen : len ≤ 5000) (hL : lineN l = (x1, (u : Int), 0)) (hx : x1.length ≤ 2048) (hu : u ≤ len) : Calls Tryd.prog 8 #[.slice a len cap] w fun e w' => ParseEnd (lineS (wordsL x1) (l.drop u) (u : Int)) w e w' := by
  cases hw : wordsL x1 with
  | nil => exact rp_none h hlen hL hx hu hw
  | cons v ws =>
    rw [← rline_is]
    unfold rlineN
    rcases verbs v with rfl | rfl | rfl | rfl | rfl | rfl | rfl | rfl | rfl | rfl | rfl | rfl | rfl | rfl | rfl | rfl | rfl | nv
    · rw [if_pos (by decide)]; exact rp_get h hlen hL hx hu hw
    · rw [if_pos (by decide)]; exact rp_gets h hlen hL hx hu hw
    · rw [if_pos (by decide)]; exact rp_gat h hlen hL hx hu hw
    · rw [if_pos (by decide)]; exact rp_gats h hlen hL hx hu hw
    iterate 6
      · rw [if_neg (by decide), if_neg (by decide), if_pos (by decide)]
        exact rp_S h hlen hL hx hu hw ⟨by decide, by decide, by decide, by decide, by decide, by decide⟩ (by decide) (by decide) (by decide)
    · rw [if_neg (by decide), if_neg (by decide), if_neg (by decide), if_pos (by decide)]; exact rp_delete h hlen hL hx hu hw
    · rw [if_neg (by decide), if_neg (by decide), if_neg (by decide), if_pos (by decide)]; exact rp_incr h hlen hL hx hu hw
    · rw [if_neg (by decide), if_neg (by decide), if_neg (by decide), if_pos (by decide)]; exact rp_decr h hlen hL hx hu hw
    · rw [if_neg (by decide), if_neg (by decide), if_neg (by decide), if_pos (by decide)]; exact rp_touch h hlen hL hx hu hw
    · rw [if_neg (by decide), if_neg (by decide), if_neg (by decide), if_pos (by decide)]; exact rp_flush h hlen hL hx hu hw
    · rw [if_neg (by decide), if_pos (by decide)]; exact rp_version h hlen hL hx hu hw
    · rw [if_neg (by decide), if_pos (by decide)]; exact rp_quit h hlen hL hx hu hw
    · have e := rline_is v ws (l.drop u) (u : Int)
      unfold rlineN at e
      rw [e]
      have e2 : lineS (v :: ws) (l.drop u) (u : Int) = refuseS t_ERROR (u : Int) := by
        unfold lineS
        have e : readN (v :: ws) = (begun v, t_ERROR) := by
          show (if opN v = none then (begun v, t_ERROR) else behindN v ws) = _
          rw [if_pos (NoVerb.op nv)]
        rw [e, if_neg err_ne]
        have e2 : skipN (begun v) = 0 := by
          unfold skipN
          rw [if_neg (fun e => absurd e.1 (by show ¬ false = true; decide))]
        rw [e2]
        rfl
      rw [e2]
      exact rp_E h hlen hL hx hu hw nv
set_option maxRecDepth 100000 in
set_option maxHeartbeats 2000000 in
theorem rparse_more (h : Bu w a len cap l) (hlen : len ≤ 5000) (he : (lineN l).2.2 = 3) : Calls Tryd.prog 8 #[.slice a len cap] w fun e w' => ParseEnd moreS w e w' := by
  obtain ⟨W0, B⟩ := begS_of w
  have eW := B.eW
  have HL := hide (rline_any (h.on (below_gr B.gr)) (by omega))
  obtain ⟨r3, E3⟩ := bare_parse (s := moreS) B rfl (gr_refl W0 none)
  replace r3 := hide r3
  replace E3 := hide E3
  generalize lineN l = x at *
  obtain ⟨x1, x2, x3⟩ := x
  simp only [lineV] at *
  subst he
  clear B h hlen
  go_enter Tryd.func8, Tryd.ntmps8
  go_wp2_with (first
    | (go_at_call 13; refine HL.out.mono ?_; rintro e w1 ⟨rfl, rfl⟩; clear eW)
    | (refine wpList_store_row rfl 34 _ _ rfl w.heap.size (stC moreS none 0 none 0 none 0) rfl rfl _ _ r3.out (step_size _ _ _ _ _ _ _) rfl (step_one _ _ _ _ _ _ _) ?_))
  exact step_ret rfl E3.out.1 rfl rfl E3.out.2
set_option maxRecDepth 100000 in
set_option maxHeartbeats 2000000 in
theorem rparse_long (h : Bu w a len cap l) (hlen : len ≤ 5000) (he : (lineN l).2.2 = 4) : Calls Tryd.prog 8 #[.slice a len cap] w fun e w' => ParseEnd { refuseS t_long (lineN l).2.1 with line := (cutL l).isNone } w e w' := by
  obtain ⟨W0, B⟩ := begS_of w
  have eW := B.eW
  have HB := hide B
  have HL := hide (rline_any (h.on (below_gr B.gr)) (by omega))
  obtain ⟨u, hu, hx2, hlast⟩ := long_last he
  have hn := h.n
  obtain ⟨ab, ao, rfl, hcell⟩ := h.cell (by omega)
  have cu := fun (W : World) (hb : w.grownBy W none) => (((below_gr hb).cell (p := ⟨ab, ao + u, none⟩) (World.block_lt_of_cell? w _ (hcell u hu))).trans (hcell u hu))
  generalize (cutL l).isNone = last at *
  obtain ⟨cb, hcb⟩ : ∃ cb : Int, cb = ((l[u]'hu).toNat : Int) := ⟨_, rfl⟩
  rw [← hcb] at hlast cu
  generalize lineN l = x at *
  obtain ⟨x1, x2, x3⟩ := x
  simp only [lineV] at *
  subst he hx2
  have HF := hide (fun W => rfault_any t_long (by decide) ((u : Int) + 1) W)
  rw [← long_is] at HF
  have HS := hide (set_line (refuseS t_long ((u : Int) + 1)) last none none none 0 0 0)
  generalize hyy : refuseS t_long ((u : Int) + 1) = yy at *
  have hreq : ({ yy with line := last } : Sv).req = noQ := by rw [← hyy]; rfl
  have HE := hide (fun (w1 : World) (g1 : W0.grownBy w1 none) => bare_parse (s := { yy with line := last }) HB.out hreq g1)
  have hui : (u : Int) < (len : Int) := by omega
  have e1 : wrap64 ((u : Int) + 1 - 1) = (u : Int) := by unfold wrap64; omega
  have e2 : wrap64 (u : Int) = (u : Int) := by unfold wrap64; omega
  have HCU := hide cu
  clear B h hcell hcb cu hn hlen hyy hreq
  go_enter Tryd.func8, Tryd.ntmps8
  go_wp2_with (first
    | (go_at_call 13; refine HL.out.mono ?_; rintro e w1 ⟨rfl, rfl⟩; clear eW)
    | (go_at_call 14; refine (HF.out _).mono ?_; rintro e w2 ⟨rfl, g2⟩; obtain ⟨B, hB⟩ : ∃ B, B = w2.heap.size := ⟨_, rfl⟩; obtain ⟨W2, hW2⟩ : ∃ W2, W2 = w2.alloc (.cells (stC yy none 0 none 0 none 0) 34) := ⟨_, rfl⟩; have kk : w.grownBy W2 none := (by rw [hW2]; exact gr_trans HB.out.gr (gr_trans g2 (World.grownBy_alloc _ _ _))); have q2 := HCU.out W2 kk; obtain ⟨c2, f2, n3, k3⟩ := cell_mid (j := 14) (v := .bool last) hW2 hB (gr_refl W0 none) g2 rfl HS.out; obtain ⟨W3, hW3⟩ : ∃ W3, W3 = W2.setCell ⟨B, 14, none⟩ (.bool last) := ⟨_, rfl⟩; rw [← hW3] at n3 k3; replace n3 := hide n3; replace k3 := hide k3; have HW3 := hide hW3; clear hW3 g2 kk)
    | (refine wpList_store_row rfl 34 _ _ rfl w2.heap.size (stC yy none 0 none 0 none 0) rfl rfl _ _ (World.alloc_heap_new w2 _) (step_size _ _ _ _ _ _ _) rfl (step_one _ _ _ _ _ _ _) ?_; rw [setRow_alloc, ← hW2, ← hB]; clear hW2 hB)
    | (rw [← HW3.out]; refine wpList_load_row rfl 34 _ rfl B rfl _ (stC { yy with line := last } none 0 none 0 none 0) _ _ n3.out Tryd.underlying34 rfl (step_size _ _ _ _ _ _ _) ?_)
    | (refine wpList_store_row rfl 34 _ _ rfl w.heap.size (stC { yy with line := last } none 0 none 0 none 0) rfl rfl _ _ (HE.out W3 k3.out).1 (step_size _ _ _ _ _ _ _) rfl (step_one _ _ _ _ _ _ _) ?_))
  exact step_ret rfl (HE.out W3 k3.out).2.1 rfl rfl (HE.out W3 k3.out).2.2
theorem rparse_any (h : Bu w a len cap l) (hlen : len ≤ 5000) : Calls Tryd.prog 8 #[.slice a len cap] w fun e w' => ParseEnd (parseN l) w e w' := by
  unfold parseN
  by_cases h3 : (lineN l).2.2 = 3
  · rw [if_pos h3]; exact rparse_more h hlen h3
  rw [if_neg h3]
  by_cases h4 : (lineN l).2.2 = 4
  · rw [if_pos h4]; exact rparse_long h hlen h4
  rw [if_neg h4]
  have h0 : (lineN l).2.2 = 0 := by
    unfold lineN at h3 h4 ⊢
    repeat' split
    all_goals simp_all
  obtain ⟨hx, u, hu, hul⟩ := line_used h0
  have e : lineN l = ((lineN l).1, (u : Int), 0) := by rw [← hu, ← h0]
  have := rparse_line h hlen e hx (by rw [← h.n]; exact hul)
  rw [hu, Int.toNat_natCast]
  exact this
end
end Go.Proofs.YtfcmnkhfmofioaaDoor
