/- SlruSpares returns true for every number, all calls and every key, and writes nothing that was there. Conditions: the contracts of package slru. -/
import Derived.Test.YtedfhikmlicbgaaSlruAll
import Derived.Deep.CutBlock
import Derived.Deep.CutRange
import Derived.Laws.IdiomStrings
namespace Go.Proofs.Ytedfhikmlicbgaa
open Go.RowKit Go.Shelf
variable {Ls : World → Nat → (Nat → Prop) → Sr → Prop}

/-- The key stands last of those protected. -/
def Spared (st : Sr) (s : ByteArray) : Prop := ∃ l, st.safe = l ++ [s]
theorem spared_hit {st : Sr} {s : ByteArray} (hm : 1 ≤ st.most) (h : s ∈ allR st) : Spared (hitR st s) s := by
  unfold hitR
  rw [if_pos (hasK_iff.2 h)]
  unfold spill
  split
  · rename_i hlt
    split
    · rename_i e
      simp at e
    · rename_i x l e
      cases hw : without st.safe s with
      | nil =>
        simp only [hw] at e hlt
        simp at hlt
        omega
      | cons y m =>
        simp only [hw, List.cons_append, List.cons.injEq] at e
        exact ⟨m, e.2.symm⟩
  · exact ⟨_, rfl⟩
theorem spared_add {st : Sr} {s k : ByteArray} (h : Spared st s) : Spared (addR st k) s := by
  unfold addR
  split
  · exact h
  · exact h
/-- Then it is given up only where none is on trial. -/
theorem spared_vic {st : Sr} {s z : ByteArray} (hg : GoodR st) (h : Spared st s) (hz : ¬ z ∈ allR st) : (vicR st z).isSome = true ∧ ((vicR st z).getD ⟨#[]⟩ ≠ s ∨ (allR st).length = st.safe.length) := by
  obtain ⟨l, hl⟩ := h
  have hall : allR st = st.trial ++ (l ++ [s]) := by unfold allR; rw [hl]
  have hf : ∀ x ∈ allR st, decide (x ≠ z) = true := fun x hx => decide_eq_true fun e => hz (e ▸ hx)
  have hnd := hg.nodup
  unfold vicR
  cases ht : st.trial with
  | nil =>
    have hne : allR st ≠ [] := by rw [hall]; simp
    obtain ⟨y, m, hy⟩ := List.exists_cons_of_ne_nil hne
    rw [hy, List.find?_cons_of_pos (by rw [hy] at hf; exact hf y List.mem_cons_self)]
    refine ⟨rfl, .inr ?_⟩
    rw [← hy]
    unfold allR
    rw [ht, List.nil_append]
  | cons y m =>
    have hy : allR st = y :: (m ++ (l ++ [s])) := by rw [hall, ht]; rfl
    rw [hy, List.find?_cons_of_pos (by rw [hy] at hf; exact hf y List.mem_cons_self)]
    refine ⟨rfl, .inl ?_⟩
    intro e
    rw [hy, List.nodup_cons] at hnd
    exact hnd.1 (by rw [show y = s from e]; simp)
/-- No key is so long. -/
def Keyed300 (st : Sr) : Prop := ∀ x ∈ allR st, x.size ≤ 300
theorem k300_fresh (most : Int) : Keyed300 (freshR most) := fun x hx => by cases hx
theorem k300_add {st : Sr} {k : ByteArray} (h : Keyed300 st) (hk : k.size ≤ 300) : Keyed300 (addR st k) := by
  intro x hx
  by_cases hm : k ∈ allR st
  · rw [(add_in hm).2] at hx
    exact h x hx
  · rw [(add_out hm).2] at hx
    simp only [allR, List.mem_append, List.mem_singleton] at hx
    rcases hx with (hx | rfl) | hx
    · exact h x (List.mem_append_left _ hx)
    · exact hk
    · exact h x (List.mem_append_right _ hx)
theorem k300_hit {st : Sr} {k : ByteArray} (h : Keyed300 st) : Keyed300 (hitR st k) := by
  intro x hx
  by_cases hm : k ∈ allR st
  · rw [all_hit hm] at hx
    rcases List.mem_append.1 hx with hx | hx
    · exact h x (mem_without.1 hx).1
    · rw [List.mem_singleton] at hx
      rw [hx]
      exact h k hm
  · rw [hit_out hm] at hx
    exact h x hx
theorem add_mem (st : Sr) (s : ByteArray) : s ∈ allR (addR st s) := by
  by_cases h : s ∈ allR st
  · rw [(add_in h).2]
    exact h
  · rw [(add_out h).2]
    simp [allR]
theorem info_u8 : (Try.prog.info? 5).map (fun i => (i.zero, i.size, i.bytes)) = some (some (.int .u8 0), 1, 1) := by kernel_rfl
theorem add_zero_at (g j : Nat) : (⟨g, 0, none⟩ : Addr).add j = ⟨g, j, none⟩ := by unfold Addr.add; split <;> simp_all
/-- A text of 301 bytes. -/
theorem zeros_conv {w : World} {base g : Nat} (h : w.ownsRow base 5 1 (.slice (some ⟨g, 0, none⟩) 301 301) 301 (madeCells (Value.int .u8 0).cells (301 * 1)).toList) :
    ∃ z : ByteArray, z.size = 301 ∧ (convert 43 9 (.slice (some ⟨g, 0, none⟩) 301 301)).run Try.prog w = .ok (.string z) w := by
  have e : (madeCells (Value.int .u8 0).cells (301 * 1)).toList = List.replicate 301 (.int .u8 0) := toList_madeCells_one _ _
  rw [e] at h
  obtain ⟨l, hl⟩ : ∃ l : List UInt8, l = List.replicate 301 0 := ⟨_, rfl⟩
  have hlen : l.length = 301 := by rw [hl, List.length_replicate]
  have r := run_convert_bytes_back (P := Try.prog) w 43 9 5 ⟨g, 0, none⟩ 301 l Try.underlying43 Try.underlying5 Try.underlying9 (fun j hj => by
    have hget : l[j] = 0 := by simp only [hl, List.getElem_replicate]
    rw [add_zero_at, h.cellAt j (by omega), List.getElem?_replicate, if_pos (by omega), hget]
    rfl)
  rw [hlen] at r
  exact ⟨⟨l.toArray⟩, by show l.toArray.size = 301; rw [List.size_toArray, hlen], r⟩
set_option maxRecDepth 100000 in
set_option maxHeartbeats 4000000 in
theorem slruSpares_in (L : SlruLib Ls) (most : Int) (hm : I64 most) (hm1 : 1 ≤ most) (s : ByteArray) (hz : s.size ≤ 300) {w : World} {a : Option Addr} {len cap : Nat} {os : List Op8} (h : OpsAt w a len cap os) (hS : Short os) {a' : Option Addr} {len' cap' : Nat} {os' : List Op8} (h' : OpsAt w a' len' cap' os') (hS' : Short os') (hpos : 0 < len') :
    Calls Try.prog 5 #[.int .i64 most, .slice a len cap, .string s, .slice a' len' cap'] w fun e w' => e = .returned (.bool true) ∧ Below w.heap.size w w' := by
  have hl := h.len_
  have hlen : len ≤ 200 := by rw [← hl]; exact hS.1
  have hl' := h'.len_
  have hlen' : len' ≤ 200 := by rw [← hl']; exact hS'.1
  have hzi : (s.size : Int) ≤ 300 := by omega
  have hpi : ((len' : Int) == 0) = false := beq_eq_false_iff_ne.2 (by omega)
  have hM : (500 : Nat) < maxLen := by decide
  have hsM : s.size ≤ maxLen := by omega
  have hB : Below w.heap.size w w := Below.refl _ _
  obtain ⟨j0, hj, jz0, jz1, jz2⟩ := info_parts info_u8
  have k1 := hide True.intro
  have k2 := hide True.intro
  go_enter Try.func5, Try.ntmps5
  go_upto_region 7 with (first
    | (go_at_call 9; refine (awake_any L _).mono ?_; rintro e w1 ⟨rfl, hb⟩; replace hB := Bt hB hb; clear hb)
    | (go_at_call 10; have t := k1; clear t; refine (short_any (h.on hB)).mono ?_; rintro e w2 ⟨⟨q, rfl, hq⟩, hg⟩; obtain rfl : q = true := hq.2 hS; replace hB := gr_below hB hg (fun _ e => by cases e); clear hg hq k1)
    | (go_at_call 10; have t := k2; clear t; refine (short_any (h'.on hB)).mono ?_; rintro e w2 ⟨⟨q, rfl, hq⟩, hg⟩; obtain rfl : q = true := hq.2 hS'; replace hB := gr_below hB hg (fun _ e => by cases e); clear hg hq k2)
    | (go_at_call 11; refine (new_is L (Law.ofBelow hB) most hm).mono ?_; clear hB; rintro e w3 ⟨b, own, rfl, H⟩))
  clear hpi
  go_wp2
  go_loopw [13] (fun i wr => ∃ (k : Nat) (own : Nat → Prop) (st : Sr), k ≤ len ∧ i = .int .i64 k ∧ (allR st).length ≤ k ∧ st.most = most ∧ Keyed300 st ∧ Law w wr ((lsP L b own st).and Part.emp)) (fun i _ => len - (intOf i).toNat)
  case atStart => exact ⟨0, own, freshR most, Nat.zero_le _, rfl, Nat.zero_le _, rfl, k300_fresh most, H⟩
  case round =>
    clear H
    obtain ⟨k, own, st, hk, rfl, hs, hmo, h300, H⟩ := hrel
    by_cases hlt : k < len
    · obtain ⟨ca, off, rfl, hcell, hok⟩ := h.at k (by omega)
      have c0 := (hcell.on (Nat.le_refl _) H.below).kd
      have c1 := (hcell.on (Nat.le_refl _) H.below).key
      have hki : (k : Int) < (len : Int) := by omega
      have hks := hok.key
      have hlt1 : (allR st).length < maxLen := by omega
      have hk3 : os[k].key.size ≤ 300 := hS.2 _ (List.getElem_mem _)
      have A1 := hide (Nat.le_trans (len_add st os[k].key) (Nat.succ_le_succ hs))
      have A2 := hide (Nat.le_trans (Nat.le_of_eq (len_hit H.good os[k].key)) (Nat.le_succ_of_le hs))
      have B1 := hide ((most_add st os[k].key).trans hmo)
      have B2 := hide ((most_hit st os[k].key).trans hmo)
      have C1 := hide (k300_add h300 hk3)
      have C2 := hide (k300_hit (k := os[k].key) h300)
      generalize os[k].key = x at *
      generalize os[k].kd = kd at *
      clear hcell hok h300 hk3 hmo
      by_cases e1 : kd = 1
      · subst e1
        go_wp2_with (go_at_call 14; refine (hit_is L H (Nat.le_of_lt hlt1) x hks _ _ rfl rfl).mono ?_; rintro e w2 ⟨rfl, own2, H2⟩)
        go_roundw
        case rel => exact ⟨k + 1, own2, _, by omega, by go_num, A2.out, B2.out, C2.out, H2⟩
        case measure => simp [intOf]; omega
      · have f1 : (kd == 1) = false := beq_eq_false_iff_ne.2 e1
        clear e1
        go_wp2_with (go_at_call 12; refine (add_is L H hlt1 x hks _ _ rfl rfl).mono ?_; rintro e w2 ⟨rfl, own2, H2⟩)
        go_roundw
        case rel => exact ⟨k + 1, own2, _, by omega, by go_num, A1.out, B1.out, C1.out, H2⟩
        case measure => simp [intOf]; omega
    · obtain ⟨t1, T1⟩ : ∃ t, addR st s = t := ⟨_, rfl⟩
      have hmem := add_mem st s
      have hgt := good_add H.good s
      have h1 := len_add st s
      have h301 := k300_add h300 hz
      have hmo1 := (most_add st s).trans hmo
      rw [T1] at hmem hgt h1 h301 hmo1
      obtain ⟨t2, T2⟩ : ∃ t, hitR t1 s = t := ⟨_, rfl⟩
      have hsp0 := spared_hit (by rw [hmo1]; exact hm1) hmem
      have h302 := k300_hit (k := s) h301
      have h2 := len_hit hgt s
      rw [T2] at hsp0 h302 h2
      have R1 := hide (rem_in hmem)
      have T1' := hide T1
      have T2' := hide T2
      have SP := hide hsp0
      have KS := hide h302
      have m0 : (allR st).length < maxLen := by omega
      have m1 : (allR t1).length ≤ maxLen := by omega
      have m2 : (allR t2).length ≤ 201 := by omega
      clear T1 T2 hmem hgt h1 h301 hmo1 hsp0 h302 h2 h300 hmo hs
      go_wp2_with (first
        | (go_at_call 12; refine (add_is L H m0 s hsM _ _ rfl T1'.out).mono ?_; clear H T1'; rintro e w4 ⟨rfl, own4, H⟩)
        | (go_at_call 14; refine (hit_is L H m1 s hsM _ _ R1.out T2'.out).mono ?_; clear H T2'; rintro e w5 ⟨rfl, own5, H⟩))
      go_loopw [14, 15] (fun f i wr => ∃ (k : Nat) (fr : Int) (own : Nat → Prop) (st : Sr), k ≤ len' ∧ i = .int .i64 k ∧ f = .int .i64 fr ∧ 0 ≤ fr ∧ fr ≤ k ∧ (allR st).length ≤ 201 + k ∧ Spared st s ∧ Keyed300 st ∧ Law w wr ((lsP L b own st).and Part.emp)) (fun _ i _ => len' - (intOf i).toNat)
      case atStart => exact ⟨0, 0, own5, t2, Nat.zero_le _, rfl, rfl, by omega, by omega, by omega, SP.out, KS.out, H⟩
      case round =>
        clear H SP KS m0 m1 m2
        obtain ⟨k, fr, own, st, hk, rfl, rfl, hf0, hf1, hs, hsp, h300, H⟩ := hrel
        by_cases hlt : k < len'
        · obtain ⟨ca, off, rfl, hcell, hok⟩ := h'.at k (by omega)
          have c1 := (hcell.on (Nat.le_refl _) H.below).key
          have hki : (k : Int) < (len' : Int) := by omega
          have hks := hok.key
          have hlt1 : (allR st).length < maxLen := by omega
          have hk3 : os'[k].key.size ≤ 300 := hS'.2 _ (List.getElem_mem _)
          have A1 := hide (Nat.le_trans (len_add st os'[k].key) (Nat.succ_le_succ hs))
          have B1 := hide (spared_add (k := os'[k].key) hsp)
          have C1 := hide (k300_add h300 hk3)
          generalize os'[k].key = x at *
          clear hcell hok h300 hk3 hsp
          obtain ⟨er, E1⟩ : ∃ e, addErr st x = e := ⟨_, rfl⟩
          have HE := hide E1
          clear E1
          by_cases e0 : er = 0
          · subst e0
            go_wp2_with (go_at_call 12; refine (add_is L H hlt1 x hks _ _ HE.out rfl).mono ?_; rintro e w6 ⟨rfl, own6, H6⟩)
            go_roundw
            case rel => exact ⟨k + 1, fr + 1, own6, _, by omega, by go_num, by go_num, by omega, by omega, A1.out, B1.out, C1.out, H6⟩
            case measure => simp [intOf]; omega
          · have f0 : (er == 0) = false := beq_eq_false_iff_ne.2 e0
            clear e0
            go_wp2_with (go_at_call 12; refine (add_is L H hlt1 x hks _ _ HE.out rfl).mono ?_; rintro e w6 ⟨rfl, own6, H6⟩)
            go_roundw
            case rel => exact ⟨k + 1, fr, own6, _, by omega, by go_num, rfl, by omega, by omega, A1.out, B1.out, C1.out, H6⟩
            case measure => simp [intOf]; omega
        · have hle : (allR st).length ≤ maxLen := by omega
          go_upto_region 23 with (first
            | (at_make; refine wpList_make_full _ rfl _ _ 43 rfl w.heap.size 5 j0 (.int .u8 0) 1 Try.underlying43 hj jz0 jz1 _ _ _ _ 301 rfl rfl rfl rfl ?x1 ?x2 ?x3 ?x4; (case x1 => omega); (case x2 => decide); (case x3 => exact H.below.size); intro w9 hown9 hg9; obtain ⟨z, hz301, hcv⟩ := zeros_conv hown9; replace H := H.step hg9; clear hown9 hg9; have hzM : z.size ≤ maxLen := (by omega); obtain ⟨hV1, hV2⟩ := spared_vic H.good hsp (fun hm => by have := h300 z hm; omega); clear hz301)
            | (go_at_call 18; refine (victim_is L H hle z hzM _ _ rfl hV1).mono ?_; clear H hcv; rintro e w10 ⟨rfl, H⟩; have hB := H.below))
          have H1 := H
          have hB1 := hB
          clear H hB
          by_cases hv : (vicR st z).getD ⟨#[]⟩ = s
          · have hq : (allR st).length = st.safe.length := hV2.resolve_left fun h => h hv
            rw [hv]
            have P1 : Hid ((st.safe.length : Int) = ((allR st).length : Int)) := by show _ = _; rw [hq]
            clear hv hq hV2
            by_cases hf : fr = 0
            · subst hf
              by_cases h1 : (allR st).length = 1
              · have L1 : Hid (((allR st).length : Int) = 1) := by show _ = _; omega
                clear h1
                go_wp2_with (go_at_call 23; refine (len_is L H1 hle _ L1.out).mono ?_; rintro e w11 ⟨rfl, H2⟩; have hB2 := H2.below)
                go_ret
                exact ⟨by simp, hB2⟩
              · have f1 : (((allR st).length : Int) == 1) = false := beq_eq_false_iff_ne.2 (by omega)
                clear h1
                go_wp2_with (first
                  | (go_at_call 23; refine (len_is L H1 hle _ rfl).mono ?_; clear H1 hB1; rintro e w11 ⟨rfl, H1⟩; have hB1 := H1.below)
                  | (go_at_call 24; refine (prot_is L H1 hle _ P1.out).mono ?_; clear H1 hB1; rintro e w12 ⟨rfl, H1⟩; have hB1 := H1.below))
                go_ret
                exact ⟨by simp, hB1⟩
            · have f0 : (fr == 0) = false := beq_eq_false_iff_ne.2 hf
              clear hf
              go_wp2_with (first
                | (go_at_call 23; refine (len_is L H1 hle _ rfl).mono ?_; clear H1 hB1; rintro e w11 ⟨rfl, H1⟩; have hB1 := H1.below)
                | (go_at_call 24; refine (prot_is L H1 hle _ P1.out).mono ?_; clear H1 hB1; rintro e w12 ⟨rfl, H1⟩; have hB1 := H1.below))
              go_ret
              exact ⟨by simp, hB1⟩
          · have hne := str_ne hv
            clear hv hV2
            go_wp2
            go_ret
            exact ⟨by simp, hB1⟩
set_option maxRecDepth 100000 in
set_option maxHeartbeats 4000000 in
theorem slruSpares_out (L : SlruLib Ls) (most : Int) (hm : I64 most) (s : ByteArray) (hz : s.size ≤ maxLen) {w : World} {a : Option Addr} {len cap : Nat} {os : List Op8} (h : OpsAt w a len cap os) {a' : Option Addr} {len' cap' : Nat} {os' : List Op8} (h' : OpsAt w a' len' cap' os') (hS : ¬ (((Short os ∧ Short os') ∧ 1 ≤ most ∧ 0 < len') ∧ s.size ≤ 300)) :
    Calls Try.prog 5 #[.int .i64 most, .slice a len cap, .string s, .slice a' len' cap'] w fun e w' => e = .returned (.bool true) ∧ Below w.heap.size w w' := by
  have hB : Below w.heap.size w w := Below.refl _ _
  have hl2 : len' ≤ maxLen := h'.2
  unfold maxLen at hz hl2
  have k1 := hide True.intro
  have k2 := hide True.intro
  by_cases hs : Short os
  · by_cases hs' : Short os'
    · by_cases h1 : most < 1
      · clear hS
        go_enter Try.func5, Try.ntmps5
        go_wp2_with (first
          | (go_at_call 9; refine (awake_any L _).mono ?_; rintro e w1 ⟨rfl, hb⟩; replace hB := Bt hB hb; clear hb)
          | (go_at_call 10; have t := k1; clear t; refine (short_any (h.on hB)).mono ?_; rintro e w2 ⟨⟨q, rfl, hq⟩, hg⟩; obtain rfl : q = true := hq.2 hs; replace hB := gr_below hB hg (fun _ e => by cases e); clear hg hq k1)
          | (go_at_call 10; have t := k2; clear t; refine (short_any (h'.on hB)).mono ?_; rintro e w2 ⟨⟨q, rfl, hq⟩, hg⟩; obtain rfl : q = true := hq.2 hs'; replace hB := gr_below hB hg (fun _ e => by cases e); clear hg hq k2)
          | (go_at_call 11; refine (new_is L (Law.ofBelow hB) most hm).mono ?_; clear hB; rintro e w3 ⟨b, own, rfl, H⟩; have hB := H.below))
        go_ret
        exact ⟨rfl, hB⟩
      · have h1' : 1 ≤ most := Int.not_lt.1 h1
        by_cases h0 : len' = 0
        · subst h0
          clear hS h1
          go_enter Try.func5, Try.ntmps5
          go_wp2_with (first
            | (go_at_call 9; refine (awake_any L _).mono ?_; rintro e w1 ⟨rfl, hb⟩; replace hB := Bt hB hb; clear hb)
            | (go_at_call 10; have t := k1; clear t; refine (short_any (h.on hB)).mono ?_; rintro e w2 ⟨⟨q, rfl, hq⟩, hg⟩; obtain rfl : q = true := hq.2 hs; replace hB := gr_below hB hg (fun _ e => by cases e); clear hg hq k1)
            | (go_at_call 10; have t := k2; clear t; refine (short_any (h'.on hB)).mono ?_; rintro e w2 ⟨⟨q, rfl, hq⟩, hg⟩; obtain rfl : q = true := hq.2 hs'; replace hB := gr_below hB hg (fun _ e => by cases e); clear hg hq k2)
            | (go_at_call 11; refine (new_is L (Law.ofBelow hB) most hm).mono ?_; clear hB; rintro e w3 ⟨b, own, rfl, H⟩; have hB := H.below))
          go_ret
          exact ⟨rfl, hB⟩
        · have h3 : 300 < (s.size : Int) := by
            have : ¬ s.size ≤ 300 := fun h3 => hS ⟨⟨⟨hs, hs'⟩, h1', Nat.pos_of_ne_zero h0⟩, h3⟩
            omega
          have h00 : ((len' : Int) == 0) = false := beq_eq_false_iff_ne.2 (by omega)
          clear hS h1 h0
          go_enter Try.func5, Try.ntmps5
          go_wp2_with (first
            | (go_at_call 9; refine (awake_any L _).mono ?_; rintro e w1 ⟨rfl, hb⟩; replace hB := Bt hB hb; clear hb)
            | (go_at_call 10; have t := k1; clear t; refine (short_any (h.on hB)).mono ?_; rintro e w2 ⟨⟨q, rfl, hq⟩, hg⟩; obtain rfl : q = true := hq.2 hs; replace hB := gr_below hB hg (fun _ e => by cases e); clear hg hq k1)
            | (go_at_call 10; have t := k2; clear t; refine (short_any (h'.on hB)).mono ?_; rintro e w2 ⟨⟨q, rfl, hq⟩, hg⟩; obtain rfl : q = true := hq.2 hs'; replace hB := gr_below hB hg (fun _ e => by cases e); clear hg hq k2)
            | (go_at_call 11; refine (new_is L (Law.ofBelow hB) most hm).mono ?_; clear hB; rintro e w3 ⟨b, own, rfl, H⟩; have hB := H.below))
          go_ret
          exact ⟨rfl, hB⟩
    · clear hS
      go_enter Try.func5, Try.ntmps5
      go_wp2_with (first
        | (go_at_call 9; refine (awake_any L _).mono ?_; rintro e w1 ⟨rfl, hb⟩; replace hB := Bt hB hb; clear hb)
        | (go_at_call 10; have t := k1; clear t; refine (short_any (h.on hB)).mono ?_; rintro e w2 ⟨⟨q, rfl, hq⟩, hg⟩; obtain rfl : q = true := hq.2 hs; replace hB := gr_below hB hg (fun _ e => by cases e); clear hg hq k1)
        | (go_at_call 10; have t := k2; clear t; refine (short_any (h'.on hB)).mono ?_; rintro e w2 ⟨⟨q, rfl, hq⟩, hg⟩; obtain rfl : q = false := Bool.eq_false_iff.2 fun e => hs' (hq.1 e); replace hB := gr_below hB hg (fun _ e => by cases e); clear hg hq k2)
        | (go_at_call 11; refine (new_is L (Law.ofBelow hB) most hm).mono ?_; clear hB; rintro e w3 ⟨b, own, rfl, H⟩; have hB := H.below))
      go_ret
      exact ⟨rfl, hB⟩
  · clear hS
    by_cases hs' : Short os'
    · skip
      go_enter Try.func5, Try.ntmps5
      go_wp2_with (first
        | (go_at_call 9; refine (awake_any L _).mono ?_; rintro e w1 ⟨rfl, hb⟩; replace hB := Bt hB hb; clear hb)
        | (go_at_call 10; have t := k1; clear t; refine (short_any (h.on hB)).mono ?_; rintro e w2 ⟨⟨q, rfl, hq⟩, hg⟩; obtain rfl : q = false := Bool.eq_false_iff.2 fun e => hs (hq.1 e); replace hB := gr_below hB hg (fun _ e => by cases e); clear hg hq k1)
        | (go_at_call 10; have t := k2; clear t; refine (short_any (h'.on hB)).mono ?_; rintro e w2 ⟨⟨q, rfl, hq⟩, hg⟩; obtain rfl : q = true := hq.2 hs'; replace hB := gr_below hB hg (fun _ e => by cases e); clear hg hq k2)
        | (go_at_call 11; refine (new_is L (Law.ofBelow hB) most hm).mono ?_; clear hB; rintro e w3 ⟨b, own, rfl, H⟩; have hB := H.below))
      go_ret
      exact ⟨rfl, hB⟩
    · skip
      go_enter Try.func5, Try.ntmps5
      go_wp2_with (first
        | (go_at_call 9; refine (awake_any L _).mono ?_; rintro e w1 ⟨rfl, hb⟩; replace hB := Bt hB hb; clear hb)
        | (go_at_call 10; have t := k1; clear t; refine (short_any (h.on hB)).mono ?_; rintro e w2 ⟨⟨q, rfl, hq⟩, hg⟩; obtain rfl : q = false := Bool.eq_false_iff.2 fun e => hs (hq.1 e); replace hB := gr_below hB hg (fun _ e => by cases e); clear hg hq k1)
        | (go_at_call 10; have t := k2; clear t; refine (short_any (h'.on hB)).mono ?_; rintro e w2 ⟨⟨q, rfl, hq⟩, hg⟩; obtain rfl : q = false := Bool.eq_false_iff.2 fun e => hs' (hq.1 e); replace hB := gr_below hB hg (fun _ e => by cases e); clear hg hq k2)
        | (go_at_call 11; refine (new_is L (Law.ofBelow hB) most hm).mono ?_; clear hB; rintro e w3 ⟨b, own, rfl, H⟩; have hB := H.below))
      go_ret
      exact ⟨rfl, hB⟩
theorem slruSpares_walk (L : SlruLib Ls) (W : World) (a0 : Int) (w0 : (Lit.int .i64 a0).wf = true) (a1 : Option Addr) (len1 cap1 : Nat) (z1 : List Op8) (w1 : OpsAt W a1 len1 cap1 z1) (s2 : ByteArray) (w2 : s2.size ≤ 140737488351232) (a3 : Option Addr) (len3 cap3 : Nat) (z3 : List Op8) (w3 : OpsAt W a3 len3 cap3 z3) :
    Calls Try.prog 5 #[.int .i64 a0, .slice a1 len1 cap1, .string s2, .slice a3 len3 cap3] W fun e W' => e = .returned (.bool true) ∧ Below W.heap.size W W' := by
  by_cases h : ((Short z1 ∧ Short z3) ∧ 1 ≤ a0 ∧ 0 < len3) ∧ s2.size ≤ 300
  · exact slruSpares_in L a0 (i64_wf w0) h.1.2.1 s2 h.2 w1 h.1.1.1 w3 h.1.1.2 h.1.2.2
  · exact slruSpares_out L a0 (i64_wf w0) s2 (Nat.le_trans w2 (by decide)) w1 w3 h
end Go.Proofs.Ytedfhikmlicbgaa
