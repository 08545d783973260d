/- The request of a draft with keys: a command for each. Conditions: at most 5000 keys. What is known of a line of words that was read, as plain facts. Conditions: none. What the words of a line of the text dialect say, as a value, and the step that is made of it. Conditions: none. What package lined tells of a line's words: their fault, how much is passed over. Conditions: sizes of 64 bits. The request that package lined makes of what a line's words say, with its body. Conditions: bodies of at most 1000 bytes. -/
import Derived.Test.YtfcmnkhfmofioaaDoorG08Joined
import Derived.Test.YtfcmnkhfmofioaaDoorG02Joined
import Derived.Deep.Cut
import Derived.Deep.MidRow
namespace Go.Proofs.YtfcmnkhfmofioaaDoor
set_option linter.unusedVariables false
open Go.RowKit

section
variable {w : World} {n0 D : Nat} {d : Dv} {a va : Option Addr} {c vc : Nat}
theorem own_goes {n0 n size : Nat} {e : TypeId} {w w' : World} {v : Value} {xs : List Value} (h : w.ownsRow n0 e size v n xs) (hg : w.grownBy w' none) : w'.ownsRow n0 e size v n xs := own_same h fun k hk => hg.block k (own_at h hk).2.1 (by simp)
theorem gr_rows {w0 w1 w2 w3 : World} {row : Option Nat} (h : w0.grownBy w1 none) (k : w1.grownBy w2 none) (l : w2.grownBy w3 row) (hr : ∀ b, row = some b → w0.heap.size ≤ b) : w0.grownBy w3 none :=
  ⟨l.os.trans (k.os.trans h.os), l.tape.trans (k.tape.trans h.tape), l.output.trans (k.output.trans h.output), Nat.le_trans h.size (Nat.le_trans k.size l.size), fun b hb _ => by
    have h1 := h.size
    have h2 := k.size
    exact (l.block b (by omega) (fun e => by have := hr b e.symm; omega)).trans ((k.block b (by omega) (by simp)).trans (h.block b hb (by simp)))⟩
theorem set_key (x : List UInt8) : (cmD d va vc).setIfInBounds 1 (.string (mkB x)) = cmC (cmdD d x) va vc := by simp [cmD, cmC, cmdD]
set_option maxRecDepth 100000 in
set_option maxHeartbeats 2000000 in
theorem request_some (hD : w.heap[D]? = some (.cells (drC d a c va vc) 62 (0, 0))) (hK : w.ownsRow n0 9 1 (.slice a d.keys.length c) d.keys.length (strL d.keys)) (hV : Bu w va d.val.length vc d.val) (hk : d.keys ≠ []) (hl : d.keys.length ≤ 5000) : Calls Tryd.prog 31 #[.pointer (some ⟨D, 0, none⟩)] w fun e w' => ReqEnd d a c va vc w e w' := by
  have hlt : D < w.heap.size := (Array.getElem?_eq_some_iff.1 hD).1
  obtain ⟨W0, hW0⟩ : ∃ W0, W0 = w.alloc (.cells #[.slice none 0 0, .int .i64 0, .string ⟨#[]⟩, .int .i64 0, .int .u32 0, .bool false, .bool false, .string ⟨#[]⟩, .slice none 0 0, .slice none 0 0, .bool false] 31) := ⟨_, rfl⟩
  have g0 : w.grownBy W0 none := by rw [hW0]; exact World.grownBy_alloc _ _ _
  have r0 : W0.heap[w.heap.size]? = some (.cells #[.slice none 0 0, .int .i64 0, .string ⟨#[]⟩, .int .i64 0, .int .u32 0, .bool false, .bool false, .string ⟨#[]⟩, .slice none 0 0, .slice none 0 0, .bool false] 31 (0, 0)) := by rw [hW0]; exact World.alloc_heap_new w _
  have hD0 := (g0.block D hlt (by simp)).trans hD
  have q8 := dr_keys hD
  obtain ⟨i0, hi, hz0, hz1, hz2⟩ := info_parts info_cmd
  have hz : W0.heap.size = w.heap.size + 1 := by rw [hW0, World.size_alloc]
  have HD := hide hD
  have HK := hide hK
  have HV := hide hV
  have hp : 0 < d.keys.length := List.length_pos_iff.2 hk
  obtain ⟨kb, kc, ek⟩ := own_form hK hp
  cases ek
  have HC : Hid (ksD d = d.keys) := by show ksD d = _; unfold ksD; rw [if_neg hk]
  have HQ0 := hide (fun ca cc => req_cells (d := d) (a := some ⟨kb, 0, none⟩) (c := c) (n := d.keys.length) (by rw [ksD_cmds, HC.out, List.length_map]) ca cc)
  have HD0 := hide hD0
  have hkb : kb < w.heap.size := (own_at hK rfl).2.1
  have G0 := hide g0
  clear hD hK hV hD0 hk g0
  go_enter Tryd.func31, Tryd.ntmps31
  go_wp2
  rw [← hW0]
  clear hW0
  go_loopw [3, 13] (fun v i wr => ∃ k : Nat, k ≤ d.keys.length ∧ i = .int .i64 k ∧ Hid (wr.ownsRow (w.heap.size + 1) 40 10 v k (cmdsV d va vc (d.keys.take k))) ∧ Hid (W0.grownBy wr none)) (fun _ i _ => d.keys.length - (intOf i).toNat)
  case atStart => exact ⟨0, Nat.zero_le _, rfl, World.ownsRow_nil _ _ _ _, gr_refl _ _⟩
  case round =>
    obtain ⟨k, hk, rfl, HO, HG⟩ := hrel
    by_cases hlt2 : k < d.keys.length
    · have hki : (k : Int) < (d.keys.length : Int) := by omega
      have e1 : wrap64 ((k : Int) + 1) = (k : Int) + 1 := by unfold wrap64; omega
      have hgw := gr_trans G0.out HG.out
      have ck : wr.cell? ⟨kb, k, none⟩ = some (.string (mkB d.keys[k])) := by
        rw [World.cell?_of_block (a := ⟨kb, k, none⟩) (hgw.block kb hkb (by simp)), HK.out.cellAt k (by rw [Nat.mul_one]; exact hlt2)]
        unfold strL
        rw [List.getElem?_map, List.getElem?_eq_getElem hlt2]
        rfl
      have hDr := (HG.out.block D (by rw [hz]; omega) (by simp)).trans HD0.out
      have hr := dr_cmd hDr
      have hsz : W0.heap.size ≤ wr.heap.size := HG.out.size
      have htk : d.keys.take (k + 1) = d.keys.take k ++ [d.keys[k]] := by rw [List.take_succ_eq_append_getElem hlt2]
      have HS : Hid (cmdsV d va vc (d.keys.take (k + 1)) = cmdsV d va vc (d.keys.take k) ++ (cmC (cmdD d d.keys[k]) va vc).toList) := by show _ = _; rw [htk, cmdsV_snoc]
      generalize d.keys[k] = x at *
      obtain ⟨W1, hW1⟩ : ∃ W1, W1 = wr.alloc (.cells (cmD d va vc) 40) := ⟨_, rfl⟩
      have h1 : W1.heap[wr.heap.size]? = some (.cells (cmD d va vc) 40 (0, 0)) := by rw [hW1]; exact World.alloc_heap_new _ _
      have c1 : W1.cell? ⟨wr.heap.size, 1, none⟩ = some (.string ⟨#[]⟩) := by unfold World.cell?; rw [h1]; rfl
      have f1 : W1.frozen? ⟨wr.heap.size, 1, none⟩ = false := frozen_of_row _ _ _ _ _ h1
      have h2 := heap_setCell_same W1 wr.heap.size 1 _ _ (.string (mkB x)) h1
      rw [set_key] at h2
      have g1 : wr.grownBy W1 none := by rw [hW1]; exact World.grownBy_alloc _ _ _
      have z1 : W1.heap.size = wr.heap.size + 1 := by rw [hW1, World.size_alloc]
      obtain ⟨q, hq⟩ : ∃ q, q = wr.heap.size := ⟨_, rfl⟩
      obtain ⟨W2, hW2⟩ : ∃ W2, W2 = W1.setCell ⟨q, 1, none⟩ (.string (mkB x)) := ⟨_, rfl⟩
      rw [← hq] at h1 c1 f1 h2 z1
      rw [← hW2] at h2
      have g2 : wr.grownBy W2 none := by
        rw [hW2]
        exact ⟨g1.1, g1.2, g1.3, by rw [World.size_setCell]; exact g1.size, fun b hb _ => (heap_setCell_other _ _ _ _ (show b ≠ q by omega)).trans (g1.block b hb (by simp))⟩
      have z2 : W2.heap.size = q + 1 := by rw [hW2, World.size_setCell, z1]
      have HO2 := hide (own_goes HO.out g2)
      have HG2 := hide (gr_trans HG.out g2)
      clear hDr htk
      replace g1 := hide g1
      replace g2 := hide g2
      replace h2 := hide h2
      have hq2 := hide hq
      have HW2 := hide hW2
      clear hW2
      go_wp2_with (first
        | (refine wpList_load_mid rfl 40 _ rfl D 10 rfl (cmD d va vc).toList _ hr Tryd.underlying40 rfl (by rw [cm_size d va vc, Array.length_toList]) ?_)
        | (refine wpList_store_row rfl 40 _ _ rfl wr.heap.size (cmD d va vc) rfl rfl _ _ (World.alloc_heap_new wr _) (cm_size _ _ _) rfl (cm_one _ _ _) ?_; rw [setRow_alloc, ← hW1, ← hq]; clear hW1 hq)
        | (rw [← HW2.out]; refine wpList_load_row rfl 40 _ rfl q rfl _ (cmC (cmdD d x) va vc) _ _ h2.out Tryd.underlying40 rfl (cmd_size _ _ _) ?_)
        | (refine wpList_buildSlice rfl 25 40 1 _ rfl (cmC (cmdD d x) va vc) i0 _ Tryd.underlying25 hi hz0 (by rw [hz1]; decide) (by rw [hz1]; decide) (by rw [hz1]; kernel_rfl) ?_)
        | (at_builtin; refine wpList_append_own _ rfl _ _ 25 rfl (w.heap.size + 1) 40 i0 _ 10 96 Tryd.underlying25 hi hz0 hz1 hz2 rfl (by decide) _ _ _ rfl (own_goes HO2.out (World.grownBy_alloc W2 _ none)) ⟨W2.heap.size, 0, none⟩ 1 1 (cmC (cmdD d x) va vc).toList rfl rfl (news_row _ _ _) (fun u hu => Array.all_eq_true_iff_forall_mem.1 (cmd_one (cmdD d x) va vc) u (by simpa using hu)) (by unfold maxLen; omega) (by omega) (by rw [World.size_alloc, z2]; have := hq2.out; omega) ?_; intro v' w1 o1 g1 _; have HO3 := hide o1; have HG3 := hide (gr_rows HG2.out (World.grownBy_alloc W2 (.cells (cmC (cmdD d x) va vc) 40) none) g1 (fun b hb => by have := (own_at HO2.out hb).1; omega)); clear o1 g1))
      go_roundw
      case rel => exact ⟨k + 1, by omega, by go_num, by rw [HS.out]; exact HO3.out, HG3.out⟩
      case measure => simp [intOf]; omega
    · obtain rfl : k = d.keys.length := by omega
      have hki : ¬ (d.keys.length : Int) < (d.keys.length : Int) := by omega
      have hne : ¬ (d.keys.length : Int) = 0 := by omega
      have r1 := (HG.out.block w.heap.size (by rw [hz]; omega) (by simp)).trans r0
      have hO := HO.out
      rw [List.take_length] at hO
      obtain ⟨ca, cc, rfl, e1, e2, e3⟩ := req_end (d := d) (va := va) (vc := vc) (a := some ⟨kb, 0, none⟩) (c := c) (gr_trans G0.out HG.out) r1 (by rw [HC.out]; exact hO) (by rw [HC.out])
      obtain ⟨f0, f1, f2, f3, f4, f5, f6, f7, f8, f9⟩ := form_cells ((HG.out.block D (by rw [hz]; omega) (by simp)).trans HD0.out)
      have HQ := hide (HQ0.out ca cc)
      have HR := hide r1
      have HE := hide (And.intro e1 (And.intro e2 e3))
      clear hO HO r1 e1 e2 e3
      go_wp2_with (refine wpList_store_row rfl 31 _ _ rfl w.heap.size (rqC (reqD d) ca cc none 0 (some ⟨kb, 0, none⟩) c) rfl (by rw [HQ.out]; rfl) _ _ HR.out (req_size _ _ _ _ _ _ _) rfl (req_one _ _ _ _ _ _ _) ?_)
      exact req_ret rfl HE.out.1 rfl rfl ⟨_, _, rfl, HE.out.2⟩
theorem request_any (hD : w.heap[D]? = some (.cells (drC d a c va vc) 62 (0, 0))) (hK : w.ownsRow n0 9 1 (.slice a d.keys.length c) d.keys.length (strL d.keys)) (hV : Bu w va d.val.length vc d.val) (hl : d.keys.length ≤ 5000) : Calls Tryd.prog 31 #[.pointer (some ⟨D, 0, none⟩)] w fun e w' => ReqEnd d a c va vc w e w' := by
  by_cases hk : d.keys = []
  · exact request_none hD hK hV hk
  · exact request_some hD hK hV hk hl
end
end Go.Proofs.YtfcmnkhfmofioaaDoor

namespace Go.Proofs.YtfcmnkhfmofioaaDoor

/-- The faults that words may have. -/
def Flt (f : List UInt8) : Prop := f = [] ∨ f = t_ERROR ∨ f = t_bad ∨ f = t_delta ∨ f = t_large
theorem Flt.len {f : List UInt8} (h : Flt f) : f.length ≤ 1000 := by
  rcases h with rfl | rfl | rfl | rfl | rfl <;> decide
/-- What a draft has behind some words. -/
structure DOk (d : Dv) (n : Nat) : Prop where
  keys : d.keys.length ≤ n
  size : 0 ≤ d.size
  val : d.val = []
theorem DOk.mono {d : Dv} {n m : Nat} (h : DOk d n) (hn : n ≤ m) : DOk d m := ⟨Nat.le_trans h.keys hn, h.size, h.val⟩
theorem faultK_flt (k : Nat) : Flt (faultK k) := by
  unfold faultK
  split
  · exact .inr (.inr (.inr (.inl rfl)))
  · exact .inr (.inr (.inl rfl))
theorem readW_ok {d : Dv} {n : Nat} (h : DOk d n) (k : Nat) (x : List UInt8) : DOk (readW k d x).1 (n + 1) ∧ Flt (readW k d x).2 := by
  have hk := h.keys
  unfold readW
  split
  · refine ⟨⟨by simp; omega, h.size, h.val⟩, ?_⟩
    simp only []
    split
    · exact .inl rfl
    · exact .inr (.inr (.inl rfl))
  · split
    · split
      · exact ⟨⟨by simp only []; omega, h.size, h.val⟩, .inl rfl⟩
      · exact ⟨h.mono (by omega), .inr (.inr (.inl rfl))⟩
    · split
      · split
        · refine ⟨?_, .inl rfl⟩
          unfold keepK
          repeat' split
          · exact ⟨by simp only []; omega, h.size, h.val⟩
          · exact ⟨by simp only []; omega, h.size, h.val⟩
          · exact ⟨by simp only []; omega, by simp only []; omega, h.val⟩
          · exact ⟨by simp only []; omega, h.size, h.val⟩
        · exact ⟨h.mono (by omega), faultK_flt k⟩
      · exact ⟨h.mono (by omega), faultK_flt k⟩
theorem runR_ok : ∀ (ks : List Nat) (ws : List (List UInt8)) (d : Dv) (f : List UInt8) (n : Nat), DOk d n → Flt f → DOk (runR ks ws d f).1 (n + ws.length) ∧ Flt (runR ks ws d f).2
  | [], ws, d, f, n, h, hf => ⟨h.mono (by omega), hf⟩
  | k :: ks, [], d, f, n, h, hf => ⟨h.mono (by omega), hf⟩
  | k :: ks, x :: ws, d, f, n, h, hf => by
    obtain ⟨h1, h2⟩ := readW_ok h k x
    have hf2 : Flt (if f = [] then (readW k d x).2 else f) := by
      split
      · exact h2
      · exact hf
    obtain ⟨h3, h4⟩ := runR_ok ks ws _ _ _ h1 hf2
    refine ⟨?_, h4⟩
    rw [List.length_cons, show n + (ws.length + 1) = n + 1 + ws.length by omega]
    exact h3
theorem begun_ok (v : List UInt8) (q : Bool) : DOk { begun v with quiet := q } 0 := ⟨Nat.le_refl _, Int.le_refl _, rfl⟩
theorem large_ok {r : Dv × List UInt8} {n : Nat} (h : DOk r.1 n) (hf : Flt r.2) : DOk (largeN r).1 n ∧ Flt (largeN r).2 ∧ ((largeN r).2 = [] → (largeN r).1.size ≤ 1000) := by
  unfold largeN
  simp only []
  split
  · exact ⟨h, .inr (.inr (.inr (.inr rfl))), fun e => by cases e⟩
  · rename_i hn
    refine ⟨h, hf, fun e => ?_⟩
    rcases Int.lt_or_le 1000 r.1.size with h1 | h1
    · exact absurd ⟨e, h1⟩ hn
    · exact h1
theorem behind_ok (v : List UInt8) (ws : List (List UInt8)) : DOk (behindN v ws).1 ws.length ∧ Flt (behindN v ws).2 ∧ ((behindN v ws).2 = [] → (behindN v ws).1.size ≤ 1000) := by
  unfold behindN
  simp only []
  generalize partsN (begun v).op v ws = ks
  cases quietN (begun v).op ws ks.length
  · simp only [Bool.false_eq_true, if_false]
    split
    · obtain ⟨h1, h2⟩ := runR_ok ks ws (begun v) [] 0 (begun_ok v false) (.inl rfl)
      rw [Nat.zero_add] at h1
      exact large_ok h1 h2
    · exact ⟨(begun_ok v false).mono (Nat.zero_le _), .inr (.inl rfl), fun e => by cases e⟩
  · simp only [if_true]
    split
    · obtain ⟨h1, h2⟩ := runR_ok ks (ws.take ks.length) { begun v with quiet := true } [] 0 (begun_ok v true) (.inl rfl)
      rw [Nat.zero_add] at h1
      exact large_ok (h1.mono (by rw [List.length_take]; omega)) h2
    · exact ⟨(begun_ok v true).mono (Nat.zero_le _), .inr (.inl rfl), fun e => by cases e⟩
theorem readN_ok (ws : List (List UInt8)) : DOk (readN ws).1 ws.length ∧ Flt (readN ws).2 ∧ ((readN ws).2 = [] → (readN ws).1.size ≤ 1000) := by
  cases ws with
  | nil => exact ⟨⟨Nat.le_refl _, Int.le_refl _, rfl⟩, .inr (.inl rfl), fun e => by cases e⟩
  | cons v ws =>
    rw [show readN (v :: ws) = if opN v = none then (begun v, t_ERROR) else behindN v ws from rfl]
    split
    · exact ⟨(begun_ok v false).mono (Nat.zero_le _), .inr (.inl rfl), fun e => by cases e⟩
    · obtain ⟨h1, h2, h3⟩ := behind_ok v ws
      exact ⟨h1.mono (by simp), h2, h3⟩
theorem wd_each : ∀ (r cur : List UInt8), ∀ y ∈ wd cur r, y.length ≤ cur.length + r.length
  | [], cur, y, hy => by
    simp only [wd] at hy
    split at hy
    · simp at hy
    · simp at hy
      subst hy
      simp
  | c :: r, cur, y, hy => by
    simp only [wd] at hy
    split at hy
    · split at hy
      · have := wd_each r [] y hy
        simp at this ⊢
        omega
      · rcases List.mem_cons.1 hy with rfl | h
        · simp
        · have := wd_each r [] y h
          simp at this ⊢
          omega
    · have := wd_each r (cur ++ [c]) y hy
      simp at this ⊢
      omega
theorem wordsL_each (l : List UInt8) : ∀ y ∈ wordsL l, y.length ≤ l.length := fun y hy => by
  have h : wordsL l = wd [] l := by unfold wordsL restL; simp
  rw [h] at hy
  have := wd_each l [] y hy
  simpa using this
theorem wordsL_len (l : List UInt8) : (wordsL l).length ≤ l.length + 1 := by
  have h : wordsL l = wd [] l := by unfold wordsL restL; simp
  rw [h]
  exact wd_len l []
/-- The three ways of a body. -/
theorem body_ways (l : List UInt8) (n : Int) : (bodyN l n).2.2 = 3 ∨ (bodyN l n).2.2 = 2 ∨ (bodyN l n).2.2 = 0 := by
  unfold bodyN
  repeat' split
  all_goals simp
end Go.Proofs.YtfcmnkhfmofioaaDoor

namespace Go.Proofs.YtfcmnkhfmofioaaDoor
def saidN (ws : List (List UInt8)) : Sd := ⟨reqD (rawN ws).1, (rawN ws).2, (rawN ws).1.size, (rawN ws).1.sized⟩
/-- The size of a body, if none is told. -/
structure DSz (d : Dv) : Prop where
  zero : d.sized = false → d.size = 0
  hi : d.size < 18446744073709551616
theorem readW_sz {d : Dv} (h : DSz d) (k : Nat) (x : List UInt8) : DSz (readW k d x).1 := by
  unfold readW
  split
  · exact ⟨h.zero, h.hi⟩
  · split
    · split
      · exact ⟨h.zero, h.hi⟩
      · exact h
    · split
      · rename_i u hu
        split
        · rename_i hm
          have hu2 : u ≤ 18446744073709551615 := by unfold mostK at hm; split at hm <;> omega
          unfold keepK
          repeat' split
          · exact ⟨h.zero, h.hi⟩
          · exact ⟨h.zero, h.hi⟩
          · exact ⟨(fun e => by cases e), by simp only []; omega⟩
          · exact ⟨h.zero, h.hi⟩
        · exact h
      · exact h
theorem runR_sz : ∀ (ks : List Nat) (ws : List (List UInt8)) (d : Dv) (f : List UInt8), DSz d → DSz (runR ks ws d f).1
  | [], _, _, _, h => h
  | _ :: _, [], _, _, h => h
  | k :: ks, x :: ws, _, _, h => runR_sz ks ws _ _ (readW_sz h k x)
theorem readW_keysN {k : Nat} (hk : k ≠ 0) (d : Dv) (x : List UInt8) : (readW k d x).1.keys = d.keys := by
  unfold readW
  rw [if_neg hk]
  split
  · split <;> rfl
  · split
    · split
      · unfold keepK
        repeat' split
        all_goals rfl
      · rfl
    · rfl
theorem readW_key0 (d : Dv) (x : List UInt8) : (readW 0 d x).1.keys = d.keys ++ [x] := by
  unfold readW
  rw [if_pos rfl]
theorem readW_sized {k : Nat} (hk : k ≠ 4) (d : Dv) (x : List UInt8) : (readW k d x).1.sized = d.sized := by
  unfold readW
  split
  · rfl
  · split
    · split <;> rfl
    · split
      · split
        · unfold keepK
          rw [if_neg hk]
          repeat' split
          all_goals rfl
        · rfl
      · rfl
theorem runR_sized : ∀ (ks : List Nat) (ws : List (List UInt8)) (d : Dv) (f : List UInt8), 4 ∉ ks → (runR ks ws d f).1.sized = d.sized
  | [], _, _, _, _ => rfl
  | _ :: _, [], _, _, _ => rfl
  | k :: ks, x :: ws, d, f, h => by
    rw [show runR (k :: ks) (x :: ws) d f = runR ks ws (readW k d x).1 (if f = [] then (readW k d x).2 else f) from rfl, runR_sized ks ws _ _ (fun e => h (List.mem_cons_of_mem _ e)), readW_sized (fun e => h (by rw [e]; exact List.mem_cons_self))]
theorem parts_four {op : Int} {v : List UInt8} {ws : List (List UInt8)} (h : 4 ∈ partsN op v ws) : partsN op v ws = [0, 3, 1, 4] ∨ partsN op v ws = [0, 3, 1, 4, 5] := by
  unfold partsN at h ⊢
  split at h
  · simp at h
  · split at h
    · simp at h
    · split at h
      · rename_i h0 h1 h2
        rw [if_neg h0, if_neg h1, if_pos h2]
        split
        · exact .inr rfl
        · exact .inl rfl
      · repeat' split at h
        all_goals simp at h
theorem run_four (a b c e : List UInt8) (d : Dv) (f : List UInt8) : (runR [0, 3, 1, 4] [a, b, c, e] d f).1.keys = d.keys ++ [a] := by
  rw [show (runR [0, 3, 1, 4] [a, b, c, e] d f).1 = (readW 4 (readW 1 (readW 3 (readW 0 d a).1 b).1 c).1 e).1 from rfl, readW_keysN (by decide), readW_keysN (by decide), readW_keysN (by decide), readW_key0]
theorem run_five (a b c e g : List UInt8) (d : Dv) (f : List UInt8) : (runR [0, 3, 1, 4, 5] [a, b, c, e, g] d f).1.keys = d.keys ++ [a] := by
  rw [show (runR [0, 3, 1, 4, 5] [a, b, c, e, g] d f).1 = (readW 5 (readW 4 (readW 1 (readW 3 (readW 0 d a).1 b).1 c).1 e).1 g).1 from rfl, readW_keysN (by decide), readW_keysN (by decide), readW_keysN (by decide), readW_keysN (by decide), readW_key0]
theorem rawB_at (v : List UInt8) (ws : List (List UInt8)) : ∃ (q : Bool) (ks : List Nat) (ws1 : List (List UInt8)), ks = partsN (begun v).op v ws ∧ ws1.length ≤ ws.length ∧ (rawB v ws = ({ begun v with quiet := q }, t_ERROR) ∨ ws1.length = ks.length ∧ rawB v ws = runR ks ws1 { begun v with quiet := q } []) := by
  unfold rawB
  simp only []
  rw [show (begun v).op = (begun v).op from rfl]
  generalize partsN (begun v).op v ws = ks
  cases quietN (begun v).op ws ks.length
  · simp only [Bool.false_eq_true, if_false]
    refine ⟨false, ks, ws, rfl, Nat.le_refl _, ?_⟩
    split
    · rename_i h
      exact .inr ⟨h, rfl⟩
    · exact .inl rfl
  · simp only [if_true]
    refine ⟨true, ks, ws.take ks.length, rfl, by rw [List.length_take]; omega, ?_⟩
    split
    · rename_i h
      exact .inr ⟨h, rfl⟩
    · exact .inl rfl
/-- Where a body is told there is one key. -/
theorem rawN_one (ws : List (List UInt8)) (h : (rawN ws).1.sized = true) : ∃ x, (rawN ws).1.keys = [x] := by
  cases ws with
  | nil => cases h
  | cons v ws =>
    rw [show rawN (v :: ws) = if opN v = none then (begun v, t_ERROR) else rawB v ws from rfl] at h ⊢
    split at h
    · cases h
    · rename_i h0
      rw [if_neg h0]
      obtain ⟨q, ks, ws1, hk, -, h1 | ⟨h1, h2⟩⟩ := rawB_at v ws
      · rw [h1] at h
        cases h
      · rw [h2] at h ⊢
        by_cases h4 : 4 ∈ ks
        · rw [hk] at h4
          have h5 := parts_four h4
          rw [← hk] at h5
          rcases h5 with rfl | rfl
          · match ws1, h1 with
            | [a, b, c, e], _ => exact ⟨a, by rw [run_four]; rfl⟩
          · match ws1, h1 with
            | [a, b, c, e, g], _ => exact ⟨a, by rw [run_five]; rfl⟩
        · rw [runR_sized _ _ _ _ h4] at h
          cases h
theorem zero_sz : DSz zeroD := ⟨fun _ => rfl, by decide⟩
theorem begun_sz (v : List UInt8) (q : Bool) : DSz { begun v with quiet := q } := ⟨fun _ => rfl, by show (0 : Int) < _; decide⟩
theorem rawN_ok (ws : List (List UInt8)) : DOk (rawN ws).1 ws.length ∧ Flt (rawN ws).2 ∧ DSz (rawN ws).1 := by
  cases ws with
  | nil => exact ⟨⟨Nat.le_refl _, Int.le_refl _, rfl⟩, .inr (.inl rfl), zero_sz⟩
  | cons v ws =>
    rw [show rawN (v :: ws) = if opN v = none then (begun v, t_ERROR) else rawB v ws from rfl]
    split
    · exact ⟨(begun_ok v false).mono (Nat.zero_le _), .inr (.inl rfl), begun_sz v false⟩
    · obtain ⟨q, ks, ws1, hk, hl, h1 | ⟨h1, h2⟩⟩ := rawB_at v ws
      · rw [h1]
        exact ⟨(begun_ok v q).mono (Nat.zero_le _), .inr (.inl rfl), begun_sz v q⟩
      · rw [h2]
        obtain ⟨h3, h4⟩ := runR_ok ks ws1 { begun v with quiet := q } [] 0 (begun_ok v q) (.inl rfl)
        exact ⟨h3.mono (by rw [List.length_cons]; omega), h4, runR_sz _ _ _ _ (begun_sz v q)⟩
theorem saidN_ok (ws : List (List UInt8)) : SdOk (saidN ws) := by
  obtain ⟨h1, h2, h3⟩ := rawN_ok ws
  exact ⟨h2.len, h1.size, h3.hi⟩
theorem putN (d : Dv) (f v : List UInt8) (z : Int) (b : Bool) : putSd ⟨reqD d, f, z, b⟩ v = reqD { d with val := v } := by
  unfold putSd reqD
  simp only []
  split
  · rfl
  · rw [List.map_map]
    rfl
theorem line_said (ws : List (List UInt8)) (rest : List UInt8) (used : Int) : lineSd (saidN ws) rest used = lineS ws rest used := by
  obtain ⟨-, -, h3⟩ := rawN_ok ws
  unfold lineS
  rw [readN_raw]
  unfold lineSd saidN faultSd largeN skipSd skipN finSd finishN
  generalize rawN ws = r at *
  obtain ⟨d, f⟩ := r
  simp only [putN] at *
  have hiff : (f = [] ∧ d.sized = true ∧ 1000 < d.size) ↔ (f = [] ∧ 1000 < d.size) := by
    constructor
    · rintro ⟨a, -, c⟩
      exact ⟨a, c⟩
    · rintro ⟨a, c⟩
      refine ⟨a, ?_, c⟩
      cases hz : d.sized
      · have := h3.zero hz
        omega
      · rfl
  simp only [hiff]
theorem parse_said (l : List UInt8) : parseSd saidN l = parseN l := by
  unfold parseSd parseN
  rw [line_said]
end Go.Proofs.YtfcmnkhfmofioaaDoor

namespace Go.Proofs.YtfcmnkhfmofioaaDoor
set_option linter.unusedVariables false
open Go.RowKit

section
variable {w : World} {s : Sd} {ca ta ka : Option Addr} {cc tc kc : Nat}
theorem sd_box (w : World) (s : Sd) (ca ta ka : Option Addr) (cc tc kc : Nat) (t : TypeId) : (w.alloc (.cells (sdC s ca cc ta tc ka kc) t)).cell? ⟨w.heap.size, 11, none⟩ = some (.string (mkB s.fault)) ∧ (w.alloc (.cells (sdC s ca cc ta tc ka kc) t)).cell? ⟨w.heap.size, 12, none⟩ = some (.int .u64 s.size) ∧ (w.alloc (.cells (sdC s ca cc ta tc ka kc) t)).cell? ⟨w.heap.size, 13, none⟩ = some (.bool s.sized) := by
  have h := World.alloc_heap_new w (.cells (sdC s ca cc ta tc ka kc) t)
  exact ⟨by unfold World.cell?; rw [h]; rfl, by unfold World.cell?; rw [h]; rfl, by unfold World.cell?; rw [h]; rfl⟩
set_option maxRecDepth 100000 in
set_option maxHeartbeats 1000000 in
theorem fault_any (s : Sd) (h : SdOk s) (ca ta ka : Option Addr) (cc tc kc : Nat) (w : World) : Calls Tryd.prog 27 #[.agg (sdC s ca cc ta tc ka kc)] w fun e w' => e = .returned (.string (mkB (faultSd s))) ∧ w.grownBy w' none := by
  obtain ⟨c1, c2, c3⟩ := sd_box w s ca ta ka cc tc kc 57
  have hg := World.grownBy_alloc w (.cells (sdC s ca cc ta tc ka kc) 57) none
  obtain ⟨W, hW⟩ : ∃ W, W = w.alloc (.cells (sdC s ca cc ta tc ka kc) 57) := ⟨_, rfl⟩
  obtain ⟨q, hq⟩ : ∃ q, q = w.heap.size := ⟨_, rfl⟩
  rw [← hW, ← hq] at c1 c2 c3
  rw [← hW] at hg
  obtain ⟨F, hF⟩ : ∃ F, F = faultSd s := ⟨_, rfl⟩
  rw [← hF]
  unfold faultSd at hF
  have hlo := h.lo
  have hhi := h.hi
  obtain ⟨f, hf⟩ : ∃ f, s.fault = f := ⟨_, rfl⟩
  obtain ⟨b, hb⟩ : ∃ b, s.sized = b := ⟨_, rfl⟩
  obtain ⟨z, hz⟩ : ∃ z, s.size = z := ⟨_, rfl⟩
  rw [hf, hb, hz] at hF
  rw [hf] at c1
  rw [hz] at c2 hlo hhi
  rw [hb] at c3
  simp only [sdC] at hW ⊢
  clear hf hb hz h
  cases f with
  | cons x f =>
    rw [if_neg (fun h => by cases h.1)] at hF
    subst hF
    simp only [mkB] at c1 hW ⊢
    go_enter Tryd.func27, Tryd.ntmps27
    go_upto_region 1 with fail
    rw [← hW, ← hq]
    clear hW hq
    go_wp2
    go_ret
    exact ⟨rfl, hg⟩
  | nil =>
    cases b with
    | false =>
      rw [if_neg (fun h => by cases h.2.1)] at hF
      subst hF
      simp only [mkB] at c1 hW ⊢
      go_enter Tryd.func27, Tryd.ntmps27
      go_upto_region 1 with fail
      rw [← hW, ← hq]
      clear hW hq
      go_wp2
      go_ret
      exact ⟨rfl, hg⟩
    | true =>
      by_cases hbig : 1000 < z
      · rw [if_pos ⟨rfl, rfl, hbig⟩] at hF
        subst hF
        rw [← large_is]
        simp only [mkB] at c1
        go_enter Tryd.func27, Tryd.ntmps27
        go_upto_region 1 with fail
        rw [← hW, ← hq]
        clear hW hq
        go_wp2
        go_ret
        exact ⟨rfl, hg⟩
      · rw [if_neg (fun h => hbig h.2.2)] at hF
        subst hF
        simp only [mkB] at c1 hW ⊢
        go_enter Tryd.func27, Tryd.ntmps27
        go_upto_region 1 with fail
        rw [← hW, ← hq]
        clear hW hq
        go_wp2
        go_ret
        exact ⟨rfl, hg⟩
set_option maxRecDepth 100000 in
set_option maxHeartbeats 1000000 in
theorem skip_any (s : Sd) (h : SdOk s) (ca ta ka : Option Addr) (cc tc kc : Nat) (w : World) : Calls Tryd.prog 28 #[.agg (sdC s ca cc ta tc ka kc)] w fun e w' => e = .returned (.int .i64 (skipSd s)) ∧ w.grownBy w' none := by
  obtain ⟨c1, c2, c3⟩ := sd_box w s ca ta ka cc tc kc 57
  have hg := World.grownBy_alloc w (.cells (sdC s ca cc ta tc ka kc) 57) none
  obtain ⟨W, hW⟩ : ∃ W, W = w.alloc (.cells (sdC s ca cc ta tc ka kc) 57) := ⟨_, rfl⟩
  obtain ⟨q, hq⟩ : ∃ q, q = w.heap.size := ⟨_, rfl⟩
  rw [← hW, ← hq] at c1 c2 c3
  rw [← hW] at hg
  obtain ⟨F, hF⟩ : ∃ F, F = skipSd s := ⟨_, rfl⟩
  rw [← hF]
  unfold skipSd at hF
  have hlo := h.lo
  have hhi := h.hi
  obtain ⟨b, hb⟩ : ∃ b, s.sized = b := ⟨_, rfl⟩
  obtain ⟨z, hz⟩ : ∃ z, s.size = z := ⟨_, rfl⟩
  rw [hb, hz] at hF
  rw [hz] at c2 hlo hhi
  rw [hb] at c3
  simp only [sdC] at hW ⊢
  clear hb hz h c1
  cases b with
  | false =>
    rw [if_neg (by simp)] at hF
    subst hF
    go_enter Tryd.func28, Tryd.ntmps28
    go_upto_region 1 with fail
    rw [← hW, ← hq]
    clear hW hq
    go_wp2
    go_ret
    exact ⟨rfl, hg⟩
  | true =>
    by_cases hbig : z ≤ 1073741824
    · rw [if_pos ⟨rfl, hbig⟩] at hF
      subst hF
      have hbi : ¬ (1073741824 : Int) < z := by omega
      have e1 : wrap64 z = z := by unfold wrap64; omega
      have e2 : wrap64 (z + 2) = z + 2 := by unfold wrap64; omega
      go_enter Tryd.func28, Tryd.ntmps28
      go_upto_region 1 with fail
      rw [← hW, ← hq]
      clear hW hq
      go_wp2
      go_ret
      exact ⟨rfl, hg⟩
    · rw [if_neg (fun h => hbig h.2)] at hF
      subst hF
      have hbi : (1073741824 : Int) < z := by omega
      go_enter Tryd.func28, Tryd.ntmps28
      go_upto_region 1 with fail
      rw [← hW, ← hq]
      clear hW hq
      go_wp2
      go_ret
      exact ⟨rfl, hg⟩
end
end Go.Proofs.YtfcmnkhfmofioaaDoor

namespace Go.Proofs.YtfcmnkhfmofioaaDoor
set_option linter.unusedVariables false
open Go.RowKit

section
variable {w : World} {n0 : Nat} {s : Sd} {ca ta ka : Option Addr} {cc tc kc : Nat}
def okSd (r : Qv) (used : Int) : Sv := ⟨r, ⟨#[]⟩, used, 0, false, 0⟩
/-- What finish does: the rows are from block n0 on. -/
def FinEnd (n0 : Nat) (s : Sv) (w : World) (e : Ending) (w' : World) : Prop := ∃ ca cc ta tc ka kc, e = .returned (.agg (stC s ca cc ta tc ka kc)) ∧ (∀ W' : World, (∀ k, n0 ≤ k → k < w'.heap.size → W'.heap[k]? = w'.heap[k]?) → w'.heap.size ≤ W'.heap.size → QAt W' s.req ca cc ta tc ka kc) ∧ Gr (fun k => n0 ≤ k) w w'
theorem okSd_cells (s : Sd) (r : Qv) (n : Nat) (hn : s.req.cmds.length = n) (hr : r.form = s.req.form) (hc : r.cmds.length = n) (u : Int) (ca ta ka : Option Addr) (cc tc kc : Nat) : stC (okSd r u) ca cc ta tc ka kc = #[.slice ca n cc, .int .i64 s.req.form.dia, .string s.req.form.verb, .int .i64 s.req.form.code, .int .u32 s.req.form.opq, .bool s.req.form.quiet, .bool s.req.form.wcas, .string s.req.form.flags, .slice ta s.req.form.toks.length tc, .slice ka s.req.form.keys.length kc, .bool s.req.form.b64, .string ⟨#[]⟩, .int .i64 u, .int .i64 0, .bool false, .int .i64 0] := by
  obtain ⟨rc, rf⟩ := r
  simp only at hr hc
  subst hr
  show #[Value.slice ca rc.length cc, _, _, _, _, _, _, _, _, _, _, _, _, _, _, _] = _
  rw [hc]
  rfl
/-- The request in what the words say. -/
theorem sd_req {W : World} {q : Nat} {t : TypeId} (h : W.heap[q]? = some (.cells (sdC s ca cc ta tc ka kc) t (0, 0))) : W.rangeAt q 0 (rqC s.req ca cc ta tc ka kc).toList := fun j v hv => by
  have hj : j < 11 := (List.getElem?_eq_some_iff.1 hv).1
  rw [Nat.zero_add]
  unfold World.cell?
  rw [h]
  match j, hj with
  | 0, _ | 1, _ | 2, _ | 3, _ | 4, _ | 5, _ | 6, _ | 7, _ | 8, _ | 9, _ | 10, _ => exact hv
theorem sd_at {W : World} {q : Nat} {t : TypeId} (h : W.heap[q]? = some (.cells (sdC s ca cc ta tc ka kc) t (0, 0))) (j : Nat) (v : Value) (hv : (sdC s ca cc ta tc ka kc)[j]? = some v) : W.cell? ⟨q, j, none⟩ = some v := by
  unfold World.cell?
  rw [h]
  exact hv
theorem gr_n0 {w W : World} (h : w.grownBy W none) : Gr (fun k => n0 ≤ k) w W := ⟨h.1, h.2, h.3, h.4, fun k hk _ => h.5 k hk (by simp)⟩
theorem bare_end {W : World} {r : Nat} {old : Array Value} {s : Sv} (hs : s.req = noQ) (hr : W.heap[r]? = some (.cells old 34 (0, 0))) (hw : n0 ≤ r) (hg : Gr (fun k => n0 ≤ k) w W) :
    (W.setRow r (stC s none 0 none 0 none 0)).heap[r]? = some (.cells (stC s none 0 none 0 none 0) 34 (0, 0)) ∧ FinEnd n0 s w (.returned (.agg (stC s none 0 none 0 none 0))) (W.setRow r (stC s none 0 none 0 none 0)) :=
  ⟨setRow_heap W r old _ _ _ hr, none, 0, none, 0, none, 0, rfl, fun W' _ _ => by rw [hs]; exact QAt.none_ _, ⟨hg.os, hg.tape, hg.output, by rw [size_setRow]; exact hg.size, fun k hk hn => (setRow_other W r k _ (fun e => hn (by omega))).trans (hg.block k hk hn)⟩⟩
theorem rows_end {W : World} {r : Nat} {old : Array Value} {s : Sv} (hr : W.heap[r]? = some (.cells old 34 (0, 0))) (hw : n0 ≤ r) (hl : w.heap.size ≤ r) (hg : Gr (fun k => n0 ≤ k) w W) (hq : ∀ W' : World, (∀ k, n0 ≤ k → k < W.heap.size → k ≠ r → W'.heap[k]? = W.heap[k]?) → W.heap.size ≤ W'.heap.size → QAt W' s.req ca cc ta tc ka kc) :
    (W.setRow r (stC s ca cc ta tc ka kc)).heap[r]? = some (.cells (stC s ca cc ta tc ka kc) 34 (0, 0)) ∧ FinEnd n0 s w (.returned (.agg (stC s ca cc ta tc ka kc))) (W.setRow r (stC s ca cc ta tc ka kc)) :=
  ⟨setRow_heap W r old _ _ _ hr, ca, cc, ta, tc, ka, kc, rfl, fun W' hs hz => hq W' (fun k h1 h2 h3 => (hs k h1 (by rw [size_setRow]; exact h2)).trans (setRow_other W r k _ h3)) (by rw [size_setRow] at hz; exact hz), ⟨hg.os, hg.tape, hg.output, by rw [size_setRow]; exact hg.size, fun k hk hn => (setRow_other W r k _ (fun e => hn (by omega))).trans (hg.block k hk hn)⟩⟩
set_option maxRecDepth 100000 in
set_option maxHeartbeats 2000000 in
theorem finish_plain (hA : SdAt n0 w s ca cc ta tc ka kc) (hn : n0 ≤ w.heap.size) (hz : s.sized = false) (ba : Option Addr) (bl bc : Nat) (used : Int) : Calls Tryd.prog 29 #[.agg (sdC s ca cc ta tc ka kc), .slice ba bl bc, .int .i64 used] w fun e w' => FinEnd n0 (okSd s.req used) w e w' := by
  obtain ⟨W, hW⟩ : ∃ W, W = w.alloc (.cells (sdC s ca cc ta tc ka kc) 57) := ⟨_, rfl⟩
  obtain ⟨W0, hW0⟩ : ∃ W0, W0 = W.alloc (.cells #[.slice none 0 0, .int .i64 0, .string ⟨#[]⟩, .int .i64 0, .int .u32 0, .bool false, .bool false, .string ⟨#[]⟩, .slice none 0 0, .slice none 0 0, .bool false, .string ⟨#[]⟩, .int .i64 0, .int .i64 0, .bool false, .int .i64 0] 34) := ⟨_, rfl⟩
  have hs1 : W.heap.size = w.heap.size + 1 := by rw [hW, World.size_alloc]
  have g0 : w.grownBy W0 none := by rw [hW0, hW]; exact gr_trans (World.grownBy_alloc _ _ _) (World.grownBy_alloc _ _ _)
  have b0 : W0.heap[w.heap.size]? = some (.cells (sdC s ca cc ta tc ka kc) 57 (0, 0)) := by rw [hW0]; exact ((World.grownBy_alloc W _ none).block _ (by omega) (by simp)).trans (by rw [hW]; exact World.alloc_heap_new w _)
  have r0 : W0.heap[w.heap.size + 1]? = some (.cells #[.slice none 0 0, .int .i64 0, .string ⟨#[]⟩, .int .i64 0, .int .u32 0, .bool false, .bool false, .string ⟨#[]⟩, .slice none 0 0, .slice none 0 0, .bool false, .string ⟨#[]⟩, .int .i64 0, .int .i64 0, .bool false, .int .i64 0] 34 (0, 0)) := by rw [hW0, ← hs1]; exact World.alloc_heap_new W _
  have z0 : W0.heap.size = w.heap.size + 2 := by rw [hW0, World.size_alloc, hs1]
  have c13 : W0.cell? ⟨w.heap.size, 13, none⟩ = some (.bool s.sized) := sd_at b0 13 _ rfl
  have c12 : W0.cell? ⟨w.heap.size, 12, none⟩ = some (.int .u64 s.size) := sd_at b0 12 _ rfl
  have hlen : (sdC s ca cc ta tc ka kc).size = 14 := rfl
  rw [hz] at c13
  have hr := sd_req b0
  have HQ : Hid (rqC s.req ca cc ta tc ka kc = #[.slice ca s.req.cmds.length cc, .int .i64 s.req.form.dia, .string s.req.form.verb, .int .i64 s.req.form.code, .int .u32 s.req.form.opq, .bool s.req.form.quiet, .bool s.req.form.wcas, .string s.req.form.flags, .slice ta s.req.form.toks.length tc, .slice ka s.req.form.keys.length kc, .bool s.req.form.b64]) := by show rqC _ _ _ _ _ _ _ = _; rfl
  replace hr := hide hr
  have HS := hide (okSd_cells s s.req _ rfl rfl rfl used ca ta ka cc tc kc)
  have HE := hide (rows_end (s := okSd s.req used) (ca := ca) (cc := cc) (ta := ta) (tc := tc) (ka := ka) (kc := kc) r0 (by omega) (by omega) (gr_n0 (n0 := n0) g0) (fun W' k1 k2 => hA.q W' (fun k h1 h2 => (k1 k h1 (by omega) (by omega)).trans (g0.block k h2 (by simp))) (by omega)))
  have R0 := hide r0
  clear hA b0 r0 c12 hz hlen g0
  simp only [sdC] at hW ⊢
  go_enter Tryd.func29, Tryd.ntmps29
  go_upto_region 1 with fail
  rw [← hW]
  rw [← hW0]
  clear hW hW0
  go_wp2_with (first
    | (refine wpList_load_mid rfl 31 _ rfl w.heap.size 0 rfl (rqC s.req ca cc ta tc ka kc).toList _ hr.out Tryd.underlying31 rfl (by rw [req_size s.req ca ta ka cc tc kc, Array.length_toList]) ?_; rw [HQ.out])
    | (refine wpList_store_row rfl 34 _ _ rfl (w.heap.size + 1) (stC (okSd s.req used) ca cc ta tc ka kc) rfl (by rw [HS.out]; rfl) _ _ R0.out (step_size _ _ _ _ _ _ _) rfl (step_one _ _ _ _ _ _ _) ?_))
  exact step_ret rfl HE.out.1 rfl rfl HE.out.2
set_option maxRecDepth 100000 in
set_option maxHeartbeats 2000000 in
theorem finish_more (hn : n0 ≤ w.heap.size) (hz : s.sized = true) (hk : 0 ≤ s.size ∧ s.size ≤ 1000) {ba : Option Addr} {bl bc : Nat} {rest : List UInt8} (hb : Bu w ba bl bc rest) (used : Int) (hu : 0 ≤ used ∧ used ≤ 9223372036854000000) (he : (bodyN rest s.size).2.2 = 3) : Calls Tryd.prog 29 #[.agg (sdC s ca cc ta tc ka kc), .slice ba bl bc, .int .i64 used] w fun e w' => FinEnd n0 moreS w e w' := by
  obtain ⟨W, hW⟩ : ∃ W, W = w.alloc (.cells (sdC s ca cc ta tc ka kc) 57) := ⟨_, rfl⟩
  obtain ⟨W0, hW0⟩ : ∃ W0, W0 = W.alloc (.cells #[.slice none 0 0, .int .i64 0, .string ⟨#[]⟩, .int .i64 0, .int .u32 0, .bool false, .bool false, .string ⟨#[]⟩, .slice none 0 0, .slice none 0 0, .bool false, .string ⟨#[]⟩, .int .i64 0, .int .i64 0, .bool false, .int .i64 0] 34) := ⟨_, rfl⟩
  have hs1 : W.heap.size = w.heap.size + 1 := by rw [hW, World.size_alloc]
  have g0 : w.grownBy W0 none := by rw [hW0, hW]; exact gr_trans (World.grownBy_alloc _ _ _) (World.grownBy_alloc _ _ _)
  have b0 : W0.heap[w.heap.size]? = some (.cells (sdC s ca cc ta tc ka kc) 57 (0, 0)) := by rw [hW0]; exact ((World.grownBy_alloc W _ none).block _ (by omega) (by simp)).trans (by rw [hW]; exact World.alloc_heap_new w _)
  have r0 : W0.heap[w.heap.size + 1]? = some (.cells #[.slice none 0 0, .int .i64 0, .string ⟨#[]⟩, .int .i64 0, .int .u32 0, .bool false, .bool false, .string ⟨#[]⟩, .slice none 0 0, .slice none 0 0, .bool false, .string ⟨#[]⟩, .int .i64 0, .int .i64 0, .bool false, .int .i64 0] 34 (0, 0)) := by rw [hW0, ← hs1]; exact World.alloc_heap_new W _
  have z0 : W0.heap.size = w.heap.size + 2 := by rw [hW0, World.size_alloc, hs1]
  have c13 : W0.cell? ⟨w.heap.size, 13, none⟩ = some (.bool s.sized) := sd_at b0 13 _ rfl
  have c12 : W0.cell? ⟨w.heap.size, 12, none⟩ = some (.int .u64 s.size) := sd_at b0 12 _ rfl
  have hlen : (sdC s ca cc ta tc ka kc).size = 14 := rfl
  rw [hz] at c13
  have HB := hide (body_any (hb.on (below_gr g0)) s.size (by omega))
  have ew : wrap64 s.size = s.size := by unfold wrap64; omega
  have R0 := hide (fun (w1 : World) (g1 : W0.grownBy w1 none) => (g1.block (w.heap.size + 1) (by omega) (by simp)).trans r0)
  have G0 := hide g0
  have HE := hide (fun (w1 : World) (g1 : W0.grownBy w1 none) => bare_end (n0 := n0) (w := w) (s := moreS) rfl (R0.out w1 g1) (by omega) (gr_n0 (gr_trans G0.out g1)))
  generalize bodyN rest s.size = x at *
  obtain ⟨x1, x2, x3⟩ := x
  simp only [BodyEnd] at *
  subst he
  generalize s.size = z at *
  clear b0 r0 g0 hz hlen hb hk hu
  simp only [sdC] at hW ⊢
  go_enter Tryd.func29, Tryd.ntmps29
  go_upto_region 1 with fail
  rw [← hW]
  rw [← hW0]
  clear hW hW0
  go_wp2_with (first
    | (go_at_call 44; refine HB.out.mono ?_; rintro e w1 ⟨a1, c1, rfl, v1, g1⟩; replace v1 := hide v1; replace g1 := hide g1)
    | (refine wpList_store_row rfl 34 _ _ rfl (w.heap.size + 1) (stC moreS none 0 none 0 none 0) rfl rfl _ _ (R0.out w1 g1.out) (step_size _ _ _ _ _ _ _) rfl (step_one _ _ _ _ _ _ _) ?_))
  exact step_ret rfl (HE.out w1 g1.out).1 rfl rfl (HE.out w1 g1.out).2
theorem body_small (rest : List UInt8) (n : Int) (hk : 0 ≤ n ∧ n ≤ 1000) : 0 ≤ (bodyN rest n).2.1 ∧ (bodyN rest n).2.1 ≤ 1002 := by
  unfold bodyN
  repeat' split
  all_goals simp only []
  all_goals omega
set_option maxRecDepth 100000 in
set_option maxHeartbeats 2000000 in
theorem finish_bad (hn : n0 ≤ w.heap.size) (hz : s.sized = true) (hk : 0 ≤ s.size ∧ s.size ≤ 1000) {ba : Option Addr} {bl bc : Nat} {rest : List UInt8} (hb : Bu w ba bl bc rest) (used : Int) (hu : 0 ≤ used ∧ used ≤ 9223372036854000000) (he : (bodyN rest s.size).2.2 = 2) : Calls Tryd.prog 29 #[.agg (sdC s ca cc ta tc ka kc), .slice ba bl bc, .int .i64 used] w fun e w' => FinEnd n0 ({ refuseS t_chunk (used + (bodyN rest s.size).2.1) with line := true }) w e w' := by
  obtain ⟨W, hW⟩ : ∃ W, W = w.alloc (.cells (sdC s ca cc ta tc ka kc) 57) := ⟨_, rfl⟩
  obtain ⟨W0, hW0⟩ : ∃ W0, W0 = W.alloc (.cells #[.slice none 0 0, .int .i64 0, .string ⟨#[]⟩, .int .i64 0, .int .u32 0, .bool false, .bool false, .string ⟨#[]⟩, .slice none 0 0, .slice none 0 0, .bool false, .string ⟨#[]⟩, .int .i64 0, .int .i64 0, .bool false, .int .i64 0] 34) := ⟨_, rfl⟩
  have hs1 : W.heap.size = w.heap.size + 1 := by rw [hW, World.size_alloc]
  have g0 : w.grownBy W0 none := by rw [hW0, hW]; exact gr_trans (World.grownBy_alloc _ _ _) (World.grownBy_alloc _ _ _)
  have b0 : W0.heap[w.heap.size]? = some (.cells (sdC s ca cc ta tc ka kc) 57 (0, 0)) := by rw [hW0]; exact ((World.grownBy_alloc W _ none).block _ (by omega) (by simp)).trans (by rw [hW]; exact World.alloc_heap_new w _)
  have r0 : W0.heap[w.heap.size + 1]? = some (.cells #[.slice none 0 0, .int .i64 0, .string ⟨#[]⟩, .int .i64 0, .int .u32 0, .bool false, .bool false, .string ⟨#[]⟩, .slice none 0 0, .slice none 0 0, .bool false, .string ⟨#[]⟩, .int .i64 0, .int .i64 0, .bool false, .int .i64 0] 34 (0, 0)) := by rw [hW0, ← hs1]; exact World.alloc_heap_new W _
  have z0 : W0.heap.size = w.heap.size + 2 := by rw [hW0, World.size_alloc, hs1]
  have c13 : W0.cell? ⟨w.heap.size, 13, none⟩ = some (.bool s.sized) := sd_at b0 13 _ rfl
  have c12 : W0.cell? ⟨w.heap.size, 12, none⟩ = some (.int .u64 s.size) := sd_at b0 12 _ rfl
  have hlen : (sdC s ca cc ta tc ka kc).size = 14 := rfl
  rw [hz] at c13
  have HB := hide (body_any (hb.on (below_gr g0)) s.size (by omega))
  have ew : wrap64 s.size = s.size := by unfold wrap64; omega
  have R0 := hide (fun (w1 : World) (g1 : W0.grownBy w1 none) => (g1.block (w.heap.size + 1) (by omega) (by simp)).trans r0)
  have G0 := hide g0
  have hx2 := body_small rest s.size hk
  generalize bodyN rest s.size = x at *
  obtain ⟨x1, x2, x3⟩ := x
  simp only [BodyEnd] at *
  subst he
  have eu : wrap64 (used + x2) = used + x2 := by unfold wrap64; omega
  have HF := hide (fun W => refuse_any t_chunk (by decide) (used + x2) W)
  rw [← chunk_is] at HF
  have HE := hide (fun (w1 : World) (g1 : W0.grownBy w1 none) => bare_end (n0 := n0) (w := w) (s := { refuseS t_chunk (used + x2) with line := true }) rfl (R0.out w1 g1) (by omega) (gr_n0 (gr_trans G0.out g1)))
  have HS := hide (set_line (refuseS t_chunk (used + x2)) true none none none 0 0 0)
  generalize refuseS t_chunk (used + x2) = y at *
  generalize s.size = z at *
  clear b0 r0 g0 hz hlen hb hk hu hx2
  simp only [sdC] at hW ⊢
  go_enter Tryd.func29, Tryd.ntmps29
  go_upto_region 1 with fail
  rw [← hW]
  rw [← hW0]
  clear hW hW0
  go_wp2_with (first
    | (go_at_call 44; refine HB.out.mono ?_; rintro e w1 ⟨a1, c1, rfl, v1, g1⟩; replace v1 := hide v1; replace g1 := hide g1)
    | (go_at_call 25; refine (HF.out _).mono ?_; rintro e w2 ⟨rfl, g2⟩; obtain ⟨B, hB⟩ : ∃ B, B = w2.heap.size := ⟨_, rfl⟩; obtain ⟨W2, hW2⟩ : ∃ W2, W2 = w2.alloc (.cells (stC y none 0 none 0 none 0) 34) := ⟨_, rfl⟩; obtain ⟨c2, f2, n3, k3⟩ := cell_mid (j := 14) (v := .bool true) hW2 hB g1.out g2 rfl HS.out; obtain ⟨W3, hW3⟩ : ∃ W3, W3 = W2.setCell ⟨B, 14, none⟩ (.bool true) := ⟨_, rfl⟩; rw [← hW3] at n3 k3; replace n3 := hide n3; replace k3 := hide k3; have HW3 := hide hW3; clear hW3 g2)
    | (refine wpList_store_row rfl 34 _ _ rfl w2.heap.size (stC y none 0 none 0 none 0) rfl rfl _ _ (World.alloc_heap_new w2 _) (step_size _ _ _ _ _ _ _) rfl (step_one _ _ _ _ _ _ _) ?_; rw [setRow_alloc, ← hW2, ← hB]; clear hW2 hB)
    | (rw [← HW3.out]; refine wpList_load_row rfl 34 _ rfl B rfl _ (stC { y with line := true } none 0 none 0 none 0) _ _ n3.out Tryd.underlying34 rfl (step_size _ _ _ _ _ _ _) ?_)
    | (refine wpList_store_row rfl 34 _ _ rfl (w.heap.size + 1) (stC { y with line := true } none 0 none 0 none 0) rfl rfl _ _ (R0.out W3 k3.out) (step_size _ _ _ _ _ _ _) rfl (step_one _ _ _ _ _ _ _) ?_))
  exact step_ret rfl (HE.out W3 k3.out).1 rfl rfl (HE.out W3 k3.out).2
theorem gr_set {W0 w1 : World} {g : Nat} {v : Value} (h : W0.grownBy w1 none) (hg : n0 ≤ g) : Gr (fun k => n0 ≤ k) W0 (w1.setCell ⟨g, 2, none⟩ v) := ⟨h.1, h.2, h.3, by rw [World.size_setCell]; exact h.4, fun k hk hn => (heap_setCell_other _ _ _ _ (show k ≠ g by omega)).trans (h.5 k hk (by simp))⟩
set_option maxRecDepth 100000 in
set_option maxHeartbeats 2000000 in
theorem finish_ok (hA : SdAt n0 w s ca cc ta tc ka kc) (hn : n0 ≤ w.heap.size) (hz : s.sized = true) (hk : 0 ≤ s.size ∧ s.size ≤ 1000) {ba : Option Addr} {bl bc : Nat} {rest : List UInt8} (hb : Bu w ba bl bc rest) (used : Int) (hu : 0 ≤ used ∧ used ≤ 9223372036854000000) (he : (bodyN rest s.size).2.2 = 0) : Calls Tryd.prog 29 #[.agg (sdC s ca cc ta tc ka kc), .slice ba bl bc, .int .i64 used] w fun e w' => FinEnd n0 (okSd (putSd s (bodyN rest s.size).1) (used + (bodyN rest s.size).2.1)) w e w' := by
  obtain ⟨W, hW⟩ : ∃ W, W = w.alloc (.cells (sdC s ca cc ta tc ka kc) 57) := ⟨_, rfl⟩
  obtain ⟨W0, hW0⟩ : ∃ W0, W0 = W.alloc (.cells #[.slice none 0 0, .int .i64 0, .string ⟨#[]⟩, .int .i64 0, .int .u32 0, .bool false, .bool false, .string ⟨#[]⟩, .slice none 0 0, .slice none 0 0, .bool false, .string ⟨#[]⟩, .int .i64 0, .int .i64 0, .bool false, .int .i64 0] 34) := ⟨_, rfl⟩
  have hs1 : W.heap.size = w.heap.size + 1 := by rw [hW, World.size_alloc]
  have g0 : w.grownBy W0 none := by rw [hW0, hW]; exact gr_trans (World.grownBy_alloc _ _ _) (World.grownBy_alloc _ _ _)
  have b0 : W0.heap[w.heap.size]? = some (.cells (sdC s ca cc ta tc ka kc) 57 (0, 0)) := by rw [hW0]; exact ((World.grownBy_alloc W _ none).block _ (by omega) (by simp)).trans (by rw [hW]; exact World.alloc_heap_new w _)
  have r0 : W0.heap[w.heap.size + 1]? = some (.cells #[.slice none 0 0, .int .i64 0, .string ⟨#[]⟩, .int .i64 0, .int .u32 0, .bool false, .bool false, .string ⟨#[]⟩, .slice none 0 0, .slice none 0 0, .bool false, .string ⟨#[]⟩, .int .i64 0, .int .i64 0, .bool false, .int .i64 0] 34 (0, 0)) := by rw [hW0, ← hs1]; exact World.alloc_heap_new W _
  have z0 : W0.heap.size = w.heap.size + 2 := by rw [hW0, World.size_alloc, hs1]
  have c13 : W0.cell? ⟨w.heap.size, 13, none⟩ = some (.bool s.sized) := sd_at b0 13 _ rfl
  have c12 : W0.cell? ⟨w.heap.size, 12, none⟩ = some (.int .u64 s.size) := sd_at b0 12 _ rfl
  have hlen : (sdC s ca cc ta tc ka kc).size = 14 := rfl
  rw [hz] at c13
  have HB := hide (body_any (hb.on (below_gr g0)) s.size (by omega))
  have ew : wrap64 s.size = s.size := by unfold wrap64; omega
  have R0 := hide (fun (w1 : World) (g1 : W0.grownBy w1 none) => (g1.block (w.heap.size + 1) (by omega) (by simp)).trans r0)
  have G0 := hide g0
  have hx2 := body_small rest s.size hk
  generalize bodyN rest s.size = x at *
  obtain ⟨x1, x2, x3⟩ := x
  simp only [BodyEnd] at *
  subst he
  have eu : wrap64 (used + x2) = used + x2 := by unfold wrap64; omega
  obtain ⟨hone, g, x, hca, hg1, hg2, hgx, hgf, hput⟩ := hA.put hz
  have hpl : (putSd s x1).cmds.length = 1 := by unfold putSd; rw [List.length_map, hone]
  have HS := hide (okSd_cells s (putSd s x1) 1 hone rfl hpl (used + x2) ca ta ka cc tc kc)
  have HQ : Hid (rqC s.req ca cc ta tc ka kc = #[.slice ca 1 cc, .int .i64 s.req.form.dia, .string s.req.form.verb, .int .i64 s.req.form.code, .int .u32 s.req.form.opq, .bool s.req.form.quiet, .bool s.req.form.wcas, .string s.req.form.flags, .slice ta s.req.form.toks.length tc, .slice ka s.req.form.keys.length kc, .bool s.req.form.b64]) := by show rqC _ _ _ _ _ _ _ = _; unfold rqC; rw [hone]
  have M1 := hide (fun (w1 : World) (g1 : W0.grownBy w1 none) =>
    show w1.cell? ⟨w.heap.size, 0, none⟩ = some (.slice (some ⟨g, 0, none⟩) 1 cc) ∧ w1.cell? ⟨g, 2, none⟩ = some x ∧ w1.frozen? ⟨g, 2, none⟩ = false from by
      have hw := gr_trans g0 g1
      refine ⟨?_, (World.cell?_of_block (hw.block g hg2 (by simp))).trans hgx, (World.frozen?_of_block (hw.block g hg2 (by simp))).trans hgf⟩
      have : w1.cell? ⟨w.heap.size, 0, none⟩ = some (.slice ca s.req.cmds.length cc) := sd_at ((g1.block w.heap.size (by omega) (by simp)).trans b0) 0 _ rfl
      rw [hone, hca] at this
      exact this)
  have M2 := hide (fun (w1 : World) (vb : Option Addr) (vd : Nat) (g1 : W0.grownBy w1 none) =>
    show (w1.setCell ⟨g, 2, none⟩ (.slice vb x1.length vd)).rangeAt w.heap.size 0 (rqC s.req ca cc ta tc ka kc).toList ∧ (w1.setCell ⟨g, 2, none⟩ (.slice vb x1.length vd)).heap[w.heap.size + 1]? = some (.cells #[.slice none 0 0, .int .i64 0, .string ⟨#[]⟩, .int .i64 0, .int .u32 0, .bool false, .bool false, .string ⟨#[]⟩, .slice none 0 0, .slice none 0 0, .bool false, .string ⟨#[]⟩, .int .i64 0, .int .i64 0, .bool false, .int .i64 0] 34 (0, 0)) from
      ⟨sd_req ((heap_setCell_other _ _ _ _ (show w.heap.size ≠ g by omega)).trans ((g1.block w.heap.size (by omega) (by simp)).trans b0)), (heap_setCell_other _ _ _ _ (show w.heap.size + 1 ≠ g by omega)).trans (R0.out w1 g1)⟩)
  have HE := hide (fun (w1 : World) (vb : Option Addr) (vd n1 : Nat) (g1 : W0.grownBy w1 none) (hn1 : w.heap.size + 2 ≤ n1) (hv : ValAt n1 w1 vb vd x1) => rows_end (s := okSd (putSd s x1) (used + x2)) (n0 := n0) (w := w) (ca := ca) (cc := cc) (ta := ta) (tc := tc) (ka := ka) (kc := kc) (M2.out w1 vb vd g1).2 (by omega) (by omega) ((gr_n0 g0).trans (gr_set g1 hg1)) (fun W' k1 k2 => by
    rw [World.size_setCell] at k1 k2
    have h1 := g1.size
    refine hput w1 W' vb vd x1 (fun k _ hk => (gr_trans g0 g1).block k hk (by simp)) ?_ (fun k h2 h3 => k1 k h2 (by omega) (by omega)) (by omega)
    refine (show ValAt n1 W' vb vd x1 from own_same hv fun k hk => ?_).bu
    have h4 := own_at hv hk
    exact (k1 k (by omega) h4.2.1 (by omega)).trans (heap_setCell_other _ _ _ _ (show k ≠ g by omega))))
  clear hput hgx hgf hone hpl
  subst hca
  rw [HQ.out] at M2
  generalize s.size = z at *
  clear hA b0 r0 g0 hz hlen hb hk hu hx2
  simp only [sdC] at hW ⊢
  go_enter Tryd.func29, Tryd.ntmps29
  go_upto_region 1 with fail
  rw [← hW]
  rw [← hW0]
  clear hW hW0
  go_wp2_with (first
    | (go_at_call 44; refine HB.out.mono ?_; rintro e w1 ⟨a1, c1, rfl, v1, g1⟩; obtain ⟨m0, m2, mf⟩ := M1.out w1 g1; have M3 := hide (M2.out w1 a1 c1 g1); replace v1 := hide v1; replace g1 := hide g1)
    | (refine wpList_load_mid rfl 31 _ rfl w.heap.size 0 rfl (rqC s.req (some ⟨g, 0, none⟩) cc ta tc ka kc).toList _ (by rw [HQ.out]; exact M3.out.1) Tryd.underlying31 rfl (by rw [req_size s.req (some ⟨g, 0, none⟩) ta ka cc tc kc, Array.length_toList]) ?_; rw [HQ.out])
    | (refine wpList_store_row rfl 34 _ _ rfl (w.heap.size + 1) (stC (okSd (putSd s x1) (used + x2)) (some ⟨g, 0, none⟩) cc ta tc ka kc) rfl (by rw [HS.out]; rfl) _ _ M3.out.2 (step_size _ _ _ _ _ _ _) rfl (step_one _ _ _ _ _ _ _) ?_))
  have E1 := HE.out w1 a1 c1 _ g1.out (by omega) v1.out
  exact step_ret rfl E1.1 rfl rfl E1.2
theorem finish_any (hA : SdAt n0 w s ca cc ta tc ka kc) (hn : n0 ≤ w.heap.size) (hk : 0 ≤ s.size ∧ (s.sized = true → s.size ≤ 1000)) {ba : Option Addr} {bl bc : Nat} {rest : List UInt8} (hb : Bu w ba bl bc rest) (used : Int) (hu : 0 ≤ used ∧ used ≤ 9223372036854000000) : Calls Tryd.prog 29 #[.agg (sdC s ca cc ta tc ka kc), .slice ba bl bc, .int .i64 used] w fun e w' => FinEnd n0 (finSd s rest used) w e w' := by
  unfold finSd
  cases hz : s.sized
  · rw [if_pos rfl]
    exact finish_plain hA hn hz ba bl bc used
  · rw [if_neg (by simp)]
    have hk2 := And.intro hk.1 (hk.2 hz)
    have hw : (bodyN rest s.size).2.2 = 3 ∨ (bodyN rest s.size).2.2 = 2 ∨ (bodyN rest s.size).2.2 = 0 := by
      unfold bodyN
      repeat' split
      all_goals simp
    rcases hw with he | he | he
    · rw [if_pos he]
      exact finish_more hn hz hk2 hb used hu he
    · rw [if_neg (by omega), if_pos he]
      exact finish_bad hn hz hk2 hb used hu he
    · rw [if_neg (by omega), if_neg (by omega)]
      exact finish_ok hA hn hz hk2 hb used hu he
end
end Go.Proofs.YtfcmnkhfmofioaaDoor
