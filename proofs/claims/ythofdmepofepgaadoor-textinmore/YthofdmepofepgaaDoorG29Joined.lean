/- The request of a draft with keys: a command for each. Conditions: at most 5000 keys. What is known of a line of words that was read, as plain facts. Conditions: none. -/
import Derived.Test.YthofdmepofepgaaDoorG28Joined
import Derived.Test.YthofdmepofepgaaDoorG03Joined
namespace Go.Proofs.YthofdmepofepgaaDoor
set_option linter.unusedVariables false
open Go.RowKit

section
variable {w : World} {n0 D : Nat} {d : Dv} {a va : Option Addr} {c vc : Nat}
theorem own_goes {n0 n size : Nat} {e : TypeId} {w w' : World} {v : Value} {xs : List Value} (h : w.ownsRow n0 e size v n xs) (hg : w.grownBy w' none) : w'.ownsRow n0 e size v n xs := own_same h fun k hk => hg.block k (own_at h hk).2.1 (by simp)
theorem gr_rows {w0 w1 w2 w3 : World} {row : Option Nat} (h : w0.grownBy w1 none) (k : w1.grownBy w2 none) (l : w2.grownBy w3 row) (hr : ∀ b, row = some b → w0.heap.size ≤ b) : w0.grownBy w3 none :=
  ⟨l.os.trans (k.os.trans h.os), l.tape.trans (k.tape.trans h.tape), l.output.trans (k.output.trans h.output), Nat.le_trans h.size (Nat.le_trans k.size l.size), fun b hb _ => by
    have h1 := h.size
    have h2 := k.size
    exact (l.block b (by omega) (fun e => by have := hr b e.symm; omega)).trans ((k.block b (by omega) (by simp)).trans (h.block b hb (by simp)))⟩
theorem set_key (x : List UInt8) : (cmD d va vc).setIfInBounds 1 (.string (mkB x)) = cmC (cmdD d x) va vc := by simp [cmD, cmC, cmdD]
set_option maxRecDepth 100000 in
set_option maxHeartbeats 2000000 in
theorem request_some (hD : w.heap[D]? = some (.cells (drC d a c va vc) 57 (0, 0))) (hK : w.ownsRow n0 9 1 (.slice a d.keys.length c) d.keys.length (strL d.keys)) (hV : Bu w va d.val.length vc d.val) (hk : d.keys ≠ []) (hl : d.keys.length ≤ 5000) : Calls Tryd.prog 24 #[.pointer (some ⟨D, 0, none⟩)] w fun e w' => ReqEnd d a c va vc w e w' := by
  have hlt : D < w.heap.size := (Array.getElem?_eq_some_iff.1 hD).1
  obtain ⟨W0, hW0⟩ : ∃ W0, W0 = w.alloc (.cells #[.slice none 0 0, .int .i64 0, .string ⟨#[]⟩, .int .i64 0, .int .u32 0, .bool false, .bool false, .string ⟨#[]⟩, .slice none 0 0, .slice none 0 0, .bool false] 30) := ⟨_, rfl⟩
  have g0 : w.grownBy W0 none := by rw [hW0]; exact World.grownBy_alloc _ _ _
  have r0 : W0.heap[w.heap.size]? = some (.cells #[.slice none 0 0, .int .i64 0, .string ⟨#[]⟩, .int .i64 0, .int .u32 0, .bool false, .bool false, .string ⟨#[]⟩, .slice none 0 0, .slice none 0 0, .bool false] 30 (0, 0)) := by rw [hW0]; exact World.alloc_heap_new w _
  have hD0 := (g0.block D hlt (by simp)).trans hD
  have q8 := dr_keys hD
  obtain ⟨i0, hi, hz0, hz1, hz2⟩ := info_parts info_cmd
  have hz : W0.heap.size = w.heap.size + 1 := by rw [hW0, World.size_alloc]
  have HD := hide hD
  have HK := hide hK
  have HV := hide hV
  have hp : 0 < d.keys.length := List.length_pos_iff.2 hk
  obtain ⟨kb, kc, ek⟩ := own_form hK hp
  cases ek
  have HC : Hid (ksD d = d.keys) := by show ksD d = _; unfold ksD; rw [if_neg hk]
  have HQ0 := hide (fun ca cc => req_cells (d := d) (a := some ⟨kb, 0, none⟩) (c := c) (n := d.keys.length) (by rw [ksD_cmds, HC.out, List.length_map]) ca cc)
  have HD0 := hide hD0
  have hkb : kb < w.heap.size := (own_at hK rfl).2.1
  have G0 := hide g0
  clear hD hK hV hD0 hk g0
  go_enter Tryd.func24, Tryd.ntmps24
  go_wp2
  rw [← hW0]
  clear hW0
  go_loopw [3, 13] (fun v i wr => ∃ k : Nat, k ≤ d.keys.length ∧ i = .int .i64 k ∧ Hid (wr.ownsRow (w.heap.size + 1) 38 10 v k (cmdsV d va vc (d.keys.take k))) ∧ Hid (W0.grownBy wr none)) (fun _ i _ => d.keys.length - (intOf i).toNat)
  case atStart => exact ⟨0, Nat.zero_le _, rfl, World.ownsRow_nil _ _ _ _, gr_refl _ _⟩
  case round =>
    obtain ⟨k, hk, rfl, HO, HG⟩ := hrel
    by_cases hlt2 : k < d.keys.length
    · have hki : (k : Int) < (d.keys.length : Int) := by omega
      have e1 : wrap64 ((k : Int) + 1) = (k : Int) + 1 := by unfold wrap64; omega
      have hgw := gr_trans G0.out HG.out
      have ck : wr.cell? ⟨kb, k, none⟩ = some (.string (mkB d.keys[k])) := by
        rw [World.cell?_of_block (a := ⟨kb, k, none⟩) (hgw.block kb hkb (by simp)), HK.out.cellAt k (by rw [Nat.mul_one]; exact hlt2)]
        unfold strL
        rw [List.getElem?_map, List.getElem?_eq_getElem hlt2]
        rfl
      have hDr := (HG.out.block D (by rw [hz]; omega) (by simp)).trans HD0.out
      have hr := dr_cmd hDr
      have hsz : W0.heap.size ≤ wr.heap.size := HG.out.size
      have htk : d.keys.take (k + 1) = d.keys.take k ++ [d.keys[k]] := by rw [List.take_succ_eq_append_getElem hlt2]
      have HS : Hid (cmdsV d va vc (d.keys.take (k + 1)) = cmdsV d va vc (d.keys.take k) ++ (cmC (cmdD d d.keys[k]) va vc).toList) := by show _ = _; rw [htk, cmdsV_snoc]
      generalize d.keys[k] = x at *
      obtain ⟨W1, hW1⟩ : ∃ W1, W1 = wr.alloc (.cells (cmD d va vc) 38) := ⟨_, rfl⟩
      have h1 : W1.heap[wr.heap.size]? = some (.cells (cmD d va vc) 38 (0, 0)) := by rw [hW1]; exact World.alloc_heap_new _ _
      have c1 : W1.cell? ⟨wr.heap.size, 1, none⟩ = some (.string ⟨#[]⟩) := by unfold World.cell?; rw [h1]; rfl
      have f1 : W1.frozen? ⟨wr.heap.size, 1, none⟩ = false := frozen_of_row _ _ _ _ _ h1
      have h2 := heap_setCell_same W1 wr.heap.size 1 _ _ (.string (mkB x)) h1
      rw [set_key] at h2
      have g1 : wr.grownBy W1 none := by rw [hW1]; exact World.grownBy_alloc _ _ _
      have z1 : W1.heap.size = wr.heap.size + 1 := by rw [hW1, World.size_alloc]
      obtain ⟨q, hq⟩ : ∃ q, q = wr.heap.size := ⟨_, rfl⟩
      obtain ⟨W2, hW2⟩ : ∃ W2, W2 = W1.setCell ⟨q, 1, none⟩ (.string (mkB x)) := ⟨_, rfl⟩
      rw [← hq] at h1 c1 f1 h2 z1
      rw [← hW2] at h2
      have g2 : wr.grownBy W2 none := by
        rw [hW2]
        exact ⟨g1.1, g1.2, g1.3, by rw [World.size_setCell]; exact g1.size, fun b hb _ => (heap_setCell_other _ _ _ _ (show b ≠ q by omega)).trans (g1.block b hb (by simp))⟩
      have z2 : W2.heap.size = q + 1 := by rw [hW2, World.size_setCell, z1]
      have HO2 := hide (own_goes HO.out g2)
      have HG2 := hide (gr_trans HG.out g2)
      clear hDr htk
      replace g1 := hide g1
      replace g2 := hide g2
      replace h2 := hide h2
      have hq2 := hide hq
      have HW2 := hide hW2
      clear hW2
      go_wp2_with (first
        | (refine wpList_load_mid rfl 38 _ rfl D 10 rfl (cmD d va vc).toList _ hr Tryd.underlying38 rfl (by rw [cm_size d va vc, Array.length_toList]) ?_)
        | (refine wpList_store_row rfl 38 _ _ rfl wr.heap.size (cmD d va vc) rfl rfl _ _ (World.alloc_heap_new wr _) (cm_size _ _ _) rfl (cm_one _ _ _) ?_; rw [setRow_alloc, ← hW1, ← hq]; clear hW1 hq)
        | (rw [← HW2.out]; refine wpList_load_row rfl 38 _ rfl q rfl _ (cmC (cmdD d x) va vc) _ _ h2.out Tryd.underlying38 rfl (cmd_size _ _ _) ?_)
        | (refine wpList_buildSlice rfl 24 38 1 _ rfl (cmC (cmdD d x) va vc) i0 _ Tryd.underlying24 hi hz0 (by rw [hz1]; decide) (by rw [hz1]; decide) (by rw [hz1]; kernel_rfl) ?_)
        | (at_builtin; refine wpList_append_own _ rfl _ _ 24 rfl (w.heap.size + 1) 38 i0 _ 10 96 Tryd.underlying24 hi hz0 hz1 hz2 rfl (by decide) _ _ _ rfl (own_goes HO2.out (World.grownBy_alloc W2 _ none)) ⟨W2.heap.size, 0, none⟩ 1 1 (cmC (cmdD d x) va vc).toList rfl rfl (news_row _ _ _) (fun u hu => Array.all_eq_true_iff_forall_mem.1 (cmd_one (cmdD d x) va vc) u (by simpa using hu)) (by unfold maxLen; omega) (by omega) (by rw [World.size_alloc, z2]; have := hq2.out; omega) ?_; intro v' w1 o1 g1 _; have HO3 := hide o1; have HG3 := hide (gr_rows HG2.out (World.grownBy_alloc W2 (.cells (cmC (cmdD d x) va vc) 38) none) g1 (fun b hb => by have := (own_at HO2.out hb).1; omega)); clear o1 g1))
      go_roundw
      case rel => exact ⟨k + 1, by omega, by go_num, by rw [HS.out]; exact HO3.out, HG3.out⟩
      case measure => simp [intOf]; omega
    · obtain rfl : k = d.keys.length := by omega
      have hki : ¬ (d.keys.length : Int) < (d.keys.length : Int) := by omega
      have hne : ¬ (d.keys.length : Int) = 0 := by omega
      have r1 := (HG.out.block w.heap.size (by rw [hz]; omega) (by simp)).trans r0
      have hO := HO.out
      rw [List.take_length] at hO
      obtain ⟨ca, cc, rfl, e1, e2, e3⟩ := req_end (d := d) (va := va) (vc := vc) (a := some ⟨kb, 0, none⟩) (c := c) (gr_trans G0.out HG.out) r1 (by rw [HC.out]; exact hO) (by rw [HC.out])
      obtain ⟨f0, f1, f2, f3, f4, f5, f6, f7, f8, f9⟩ := form_cells ((HG.out.block D (by rw [hz]; omega) (by simp)).trans HD0.out)
      have HQ := hide (HQ0.out ca cc)
      have HR := hide r1
      have HE := hide (And.intro e1 (And.intro e2 e3))
      clear hO HO r1 e1 e2 e3
      go_wp2_with (refine wpList_store_row rfl 30 _ _ rfl w.heap.size (rqC (reqD d) ca cc none 0 (some ⟨kb, 0, none⟩) c) rfl (by rw [HQ.out]; rfl) _ _ HR.out (req_size _ _ _ _ _ _ _) rfl (req_one _ _ _ _ _ _ _) ?_)
      exact req_ret rfl HE.out.1 rfl rfl ⟨_, _, rfl, HE.out.2⟩
theorem request_any (hD : w.heap[D]? = some (.cells (drC d a c va vc) 57 (0, 0))) (hK : w.ownsRow n0 9 1 (.slice a d.keys.length c) d.keys.length (strL d.keys)) (hV : Bu w va d.val.length vc d.val) (hl : d.keys.length ≤ 5000) : Calls Tryd.prog 24 #[.pointer (some ⟨D, 0, none⟩)] w fun e w' => ReqEnd d a c va vc w e w' := by
  by_cases hk : d.keys = []
  · exact request_none hD hK hV hk
  · exact request_some hD hK hV hk hl
end
end Go.Proofs.YthofdmepofepgaaDoor

namespace Go.Proofs.YthofdmepofepgaaDoor

/-- The faults that words may have. -/
def Flt (f : List UInt8) : Prop := f = [] ∨ f = t_ERROR ∨ f = t_bad ∨ f = t_delta ∨ f = t_large
theorem Flt.len {f : List UInt8} (h : Flt f) : f.length ≤ 1000 := by
  rcases h with rfl | rfl | rfl | rfl | rfl <;> decide
/-- What a draft has behind some words. -/
structure DOk (d : Dv) (n : Nat) : Prop where
  keys : d.keys.length ≤ n
  size : 0 ≤ d.size
  val : d.val = []
theorem DOk.mono {d : Dv} {n m : Nat} (h : DOk d n) (hn : n ≤ m) : DOk d m := ⟨Nat.le_trans h.keys hn, h.size, h.val⟩
theorem faultK_flt (k : Nat) : Flt (faultK k) := by
  unfold faultK
  split
  · exact .inr (.inr (.inr (.inl rfl)))
  · exact .inr (.inr (.inl rfl))
theorem readW_ok {d : Dv} {n : Nat} (h : DOk d n) (k : Nat) (x : List UInt8) : DOk (readW k d x).1 (n + 1) ∧ Flt (readW k d x).2 := by
  have hk := h.keys
  unfold readW
  split
  · refine ⟨⟨by simp; omega, h.size, h.val⟩, ?_⟩
    simp only []
    split
    · exact .inl rfl
    · exact .inr (.inr (.inl rfl))
  · split
    · split
      · exact ⟨⟨by simp only []; omega, h.size, h.val⟩, .inl rfl⟩
      · exact ⟨h.mono (by omega), .inr (.inr (.inl rfl))⟩
    · split
      · split
        · refine ⟨?_, .inl rfl⟩
          unfold keepK
          repeat' split
          · exact ⟨by simp only []; omega, h.size, h.val⟩
          · exact ⟨by simp only []; omega, h.size, h.val⟩
          · exact ⟨by simp only []; omega, by simp only []; omega, h.val⟩
          · exact ⟨by simp only []; omega, h.size, h.val⟩
        · exact ⟨h.mono (by omega), faultK_flt k⟩
      · exact ⟨h.mono (by omega), faultK_flt k⟩
theorem runR_ok : ∀ (ks : List Nat) (ws : List (List UInt8)) (d : Dv) (f : List UInt8) (n : Nat), DOk d n → Flt f → DOk (runR ks ws d f).1 (n + ws.length) ∧ Flt (runR ks ws d f).2
  | [], ws, d, f, n, h, hf => ⟨h.mono (by omega), hf⟩
  | k :: ks, [], d, f, n, h, hf => ⟨h.mono (by omega), hf⟩
  | k :: ks, x :: ws, d, f, n, h, hf => by
    obtain ⟨h1, h2⟩ := readW_ok h k x
    have hf2 : Flt (if f = [] then (readW k d x).2 else f) := by
      split
      · exact h2
      · exact hf
    obtain ⟨h3, h4⟩ := runR_ok ks ws _ _ _ h1 hf2
    refine ⟨?_, h4⟩
    rw [List.length_cons, show n + (ws.length + 1) = n + 1 + ws.length by omega]
    exact h3
theorem begun_ok (v : List UInt8) (q : Bool) : DOk { begun v with quiet := q } 0 := ⟨Nat.le_refl _, Int.le_refl _, rfl⟩
theorem large_ok {r : Dv × List UInt8} {n : Nat} (h : DOk r.1 n) (hf : Flt r.2) : DOk (largeN r).1 n ∧ Flt (largeN r).2 ∧ ((largeN r).2 = [] → (largeN r).1.size ≤ 1000) := by
  unfold largeN
  simp only []
  split
  · exact ⟨h, .inr (.inr (.inr (.inr rfl))), fun e => by cases e⟩
  · rename_i hn
    refine ⟨h, hf, fun e => ?_⟩
    rcases Int.lt_or_le 1000 r.1.size with h1 | h1
    · exact absurd ⟨e, h1⟩ hn
    · exact h1
theorem behind_ok (v : List UInt8) (ws : List (List UInt8)) : DOk (behindN v ws).1 ws.length ∧ Flt (behindN v ws).2 ∧ ((behindN v ws).2 = [] → (behindN v ws).1.size ≤ 1000) := by
  unfold behindN
  simp only []
  generalize partsN (begun v).op v ws = ks
  cases quietN (begun v).op ws ks.length
  · simp only [Bool.false_eq_true, if_false]
    split
    · obtain ⟨h1, h2⟩ := runR_ok ks ws (begun v) [] 0 (begun_ok v false) (.inl rfl)
      rw [Nat.zero_add] at h1
      exact large_ok h1 h2
    · exact ⟨(begun_ok v false).mono (Nat.zero_le _), .inr (.inl rfl), fun e => by cases e⟩
  · simp only [if_true]
    split
    · obtain ⟨h1, h2⟩ := runR_ok ks (ws.take ks.length) { begun v with quiet := true } [] 0 (begun_ok v true) (.inl rfl)
      rw [Nat.zero_add] at h1
      exact large_ok (h1.mono (by rw [List.length_take]; omega)) h2
    · exact ⟨(begun_ok v true).mono (Nat.zero_le _), .inr (.inl rfl), fun e => by cases e⟩
theorem readN_ok (ws : List (List UInt8)) : DOk (readN ws).1 ws.length ∧ Flt (readN ws).2 ∧ ((readN ws).2 = [] → (readN ws).1.size ≤ 1000) := by
  cases ws with
  | nil => exact ⟨⟨Nat.le_refl _, Int.le_refl _, rfl⟩, .inr (.inl rfl), fun e => by cases e⟩
  | cons v ws =>
    rw [show readN (v :: ws) = if opN v = none then (begun v, t_ERROR) else behindN v ws from rfl]
    split
    · exact ⟨(begun_ok v false).mono (Nat.zero_le _), .inr (.inl rfl), fun e => by cases e⟩
    · obtain ⟨h1, h2, h3⟩ := behind_ok v ws
      exact ⟨h1.mono (by simp), h2, h3⟩
theorem wd_each : ∀ (r cur : List UInt8), ∀ y ∈ wd cur r, y.length ≤ cur.length + r.length
  | [], cur, y, hy => by
    simp only [wd] at hy
    split at hy
    · simp at hy
    · simp at hy
      subst hy
      simp
  | c :: r, cur, y, hy => by
    simp only [wd] at hy
    split at hy
    · split at hy
      · have := wd_each r [] y hy
        simp at this ⊢
        omega
      · rcases List.mem_cons.1 hy with rfl | h
        · simp
        · have := wd_each r [] y h
          simp at this ⊢
          omega
    · have := wd_each r (cur ++ [c]) y hy
      simp at this ⊢
      omega
theorem wordsL_each (l : List UInt8) : ∀ y ∈ wordsL l, y.length ≤ l.length := fun y hy => by
  have h : wordsL l = wd [] l := by unfold wordsL restL; simp
  rw [h] at hy
  have := wd_each l [] y hy
  simpa using this
theorem wordsL_len (l : List UInt8) : (wordsL l).length ≤ l.length + 1 := by
  have h : wordsL l = wd [] l := by unfold wordsL restL; simp
  rw [h]
  exact wd_len l []
/-- The three ways of a body. -/
theorem body_ways (l : List UInt8) (n : Int) : (bodyN l n).2.2 = 3 ∨ (bodyN l n).2.2 = 2 ∨ (bodyN l n).2.2 = 0 := by
  unfold bodyN
  repeat' split
  all_goals simp
end Go.Proofs.YthofdmepofepgaaDoor
