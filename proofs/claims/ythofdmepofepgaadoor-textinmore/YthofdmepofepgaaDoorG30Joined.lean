/- What the words of a line of the text dialect say, as a value, and the step that is made of it. Conditions: none. What package lined tells of a line's words: their fault, how much is passed over. Conditions: sizes of 64 bits. -/
import Derived.Test.YthofdmepofepgaaDoorG26Joined
import Derived.Test.YthofdmepofepgaaDoorG29Joined
import Derived.Test.YthofdmepofepgaaDoorLinedA
import Derived.Deep.Cut
namespace Go.Proofs.YthofdmepofepgaaDoor
def saidN (ws : List (List UInt8)) : Sd := ⟨reqD (rawN ws).1, (rawN ws).2, (rawN ws).1.size, (rawN ws).1.sized⟩
/-- The size of a body, if none is told. -/
structure DSz (d : Dv) : Prop where
  zero : d.sized = false → d.size = 0
  hi : d.size < 18446744073709551616
theorem readW_sz {d : Dv} (h : DSz d) (k : Nat) (x : List UInt8) : DSz (readW k d x).1 := by
  unfold readW
  split
  · exact ⟨h.zero, h.hi⟩
  · split
    · split
      · exact ⟨h.zero, h.hi⟩
      · exact h
    · split
      · rename_i u hu
        split
        · rename_i hm
          have hu2 : u ≤ 18446744073709551615 := by unfold mostK at hm; split at hm <;> omega
          unfold keepK
          repeat' split
          · exact ⟨h.zero, h.hi⟩
          · exact ⟨h.zero, h.hi⟩
          · exact ⟨(fun e => by cases e), by simp only []; omega⟩
          · exact ⟨h.zero, h.hi⟩
        · exact h
      · exact h
theorem runR_sz : ∀ (ks : List Nat) (ws : List (List UInt8)) (d : Dv) (f : List UInt8), DSz d → DSz (runR ks ws d f).1
  | [], _, _, _, h => h
  | _ :: _, [], _, _, h => h
  | k :: ks, x :: ws, _, _, h => runR_sz ks ws _ _ (readW_sz h k x)
theorem readW_keysN {k : Nat} (hk : k ≠ 0) (d : Dv) (x : List UInt8) : (readW k d x).1.keys = d.keys := by
  unfold readW
  rw [if_neg hk]
  split
  · split <;> rfl
  · split
    · split
      · unfold keepK
        repeat' split
        all_goals rfl
      · rfl
    · rfl
theorem readW_key0 (d : Dv) (x : List UInt8) : (readW 0 d x).1.keys = d.keys ++ [x] := by
  unfold readW
  rw [if_pos rfl]
theorem readW_sized {k : Nat} (hk : k ≠ 4) (d : Dv) (x : List UInt8) : (readW k d x).1.sized = d.sized := by
  unfold readW
  split
  · rfl
  · split
    · split <;> rfl
    · split
      · split
        · unfold keepK
          rw [if_neg hk]
          repeat' split
          all_goals rfl
        · rfl
      · rfl
theorem runR_sized : ∀ (ks : List Nat) (ws : List (List UInt8)) (d : Dv) (f : List UInt8), 4 ∉ ks → (runR ks ws d f).1.sized = d.sized
  | [], _, _, _, _ => rfl
  | _ :: _, [], _, _, _ => rfl
  | k :: ks, x :: ws, d, f, h => by
    rw [show runR (k :: ks) (x :: ws) d f = runR ks ws (readW k d x).1 (if f = [] then (readW k d x).2 else f) from rfl, runR_sized ks ws _ _ (fun e => h (List.mem_cons_of_mem _ e)), readW_sized (fun e => h (by rw [e]; exact List.mem_cons_self))]
theorem parts_four {op : Int} {v : List UInt8} {ws : List (List UInt8)} (h : 4 ∈ partsN op v ws) : partsN op v ws = [0, 3, 1, 4] ∨ partsN op v ws = [0, 3, 1, 4, 5] := by
  unfold partsN at h ⊢
  split at h
  · simp at h
  · split at h
    · simp at h
    · split at h
      · rename_i h0 h1 h2
        rw [if_neg h0, if_neg h1, if_pos h2]
        split
        · exact .inr rfl
        · exact .inl rfl
      · repeat' split at h
        all_goals simp at h
theorem run_four (a b c e : List UInt8) (d : Dv) (f : List UInt8) : (runR [0, 3, 1, 4] [a, b, c, e] d f).1.keys = d.keys ++ [a] := by
  rw [show (runR [0, 3, 1, 4] [a, b, c, e] d f).1 = (readW 4 (readW 1 (readW 3 (readW 0 d a).1 b).1 c).1 e).1 from rfl, readW_keysN (by decide), readW_keysN (by decide), readW_keysN (by decide), readW_key0]
theorem run_five (a b c e g : List UInt8) (d : Dv) (f : List UInt8) : (runR [0, 3, 1, 4, 5] [a, b, c, e, g] d f).1.keys = d.keys ++ [a] := by
  rw [show (runR [0, 3, 1, 4, 5] [a, b, c, e, g] d f).1 = (readW 5 (readW 4 (readW 1 (readW 3 (readW 0 d a).1 b).1 c).1 e).1 g).1 from rfl, readW_keysN (by decide), readW_keysN (by decide), readW_keysN (by decide), readW_keysN (by decide), readW_key0]
theorem rawB_at (v : List UInt8) (ws : List (List UInt8)) : ∃ (q : Bool) (ks : List Nat) (ws1 : List (List UInt8)), ks = partsN (begun v).op v ws ∧ ws1.length ≤ ws.length ∧ (rawB v ws = ({ begun v with quiet := q }, t_ERROR) ∨ ws1.length = ks.length ∧ rawB v ws = runR ks ws1 { begun v with quiet := q } []) := by
  unfold rawB
  simp only []
  rw [show (begun v).op = (begun v).op from rfl]
  generalize partsN (begun v).op v ws = ks
  cases quietN (begun v).op ws ks.length
  · simp only [Bool.false_eq_true, if_false]
    refine ⟨false, ks, ws, rfl, Nat.le_refl _, ?_⟩
    split
    · rename_i h
      exact .inr ⟨h, rfl⟩
    · exact .inl rfl
  · simp only [if_true]
    refine ⟨true, ks, ws.take ks.length, rfl, by rw [List.length_take]; omega, ?_⟩
    split
    · rename_i h
      exact .inr ⟨h, rfl⟩
    · exact .inl rfl
/-- Where a body is told there is one key. -/
theorem rawN_one (ws : List (List UInt8)) (h : (rawN ws).1.sized = true) : ∃ x, (rawN ws).1.keys = [x] := by
  cases ws with
  | nil => cases h
  | cons v ws =>
    rw [show rawN (v :: ws) = if opN v = none then (begun v, t_ERROR) else rawB v ws from rfl] at h ⊢
    split at h
    · cases h
    · rename_i h0
      rw [if_neg h0]
      obtain ⟨q, ks, ws1, hk, -, h1 | ⟨h1, h2⟩⟩ := rawB_at v ws
      · rw [h1] at h
        cases h
      · rw [h2] at h ⊢
        by_cases h4 : 4 ∈ ks
        · rw [hk] at h4
          have h5 := parts_four h4
          rw [← hk] at h5
          rcases h5 with rfl | rfl
          · match ws1, h1 with
            | [a, b, c, e], _ => exact ⟨a, by rw [run_four]; rfl⟩
          · match ws1, h1 with
            | [a, b, c, e, g], _ => exact ⟨a, by rw [run_five]; rfl⟩
        · rw [runR_sized _ _ _ _ h4] at h
          cases h
theorem zero_sz : DSz zeroD := ⟨fun _ => rfl, by decide⟩
theorem begun_sz (v : List UInt8) (q : Bool) : DSz { begun v with quiet := q } := ⟨fun _ => rfl, by show (0 : Int) < _; decide⟩
theorem rawN_ok (ws : List (List UInt8)) : DOk (rawN ws).1 ws.length ∧ Flt (rawN ws).2 ∧ DSz (rawN ws).1 := by
  cases ws with
  | nil => exact ⟨⟨Nat.le_refl _, Int.le_refl _, rfl⟩, .inr (.inl rfl), zero_sz⟩
  | cons v ws =>
    rw [show rawN (v :: ws) = if opN v = none then (begun v, t_ERROR) else rawB v ws from rfl]
    split
    · exact ⟨(begun_ok v false).mono (Nat.zero_le _), .inr (.inl rfl), begun_sz v false⟩
    · obtain ⟨q, ks, ws1, hk, hl, h1 | ⟨h1, h2⟩⟩ := rawB_at v ws
      · rw [h1]
        exact ⟨(begun_ok v q).mono (Nat.zero_le _), .inr (.inl rfl), begun_sz v q⟩
      · rw [h2]
        obtain ⟨h3, h4⟩ := runR_ok ks ws1 { begun v with quiet := q } [] 0 (begun_ok v q) (.inl rfl)
        exact ⟨h3.mono (by rw [List.length_cons]; omega), h4, runR_sz _ _ _ _ (begun_sz v q)⟩
theorem saidN_ok (ws : List (List UInt8)) : SdOk (saidN ws) := by
  obtain ⟨h1, h2, h3⟩ := rawN_ok ws
  exact ⟨h2.len, h1.size, h3.hi⟩
theorem putN (d : Dv) (f v : List UInt8) (z : Int) (b : Bool) : putSd ⟨reqD d, f, z, b⟩ v = reqD { d with val := v } := by
  unfold putSd reqD
  simp only []
  split
  · rfl
  · rw [List.map_map]
    rfl
theorem line_said (ws : List (List UInt8)) (rest : List UInt8) (used : Int) : lineSd (saidN ws) rest used = lineS ws rest used := by
  obtain ⟨-, -, h3⟩ := rawN_ok ws
  unfold lineS
  rw [readN_raw]
  unfold lineSd saidN faultSd largeN skipSd skipN finSd finishN
  generalize rawN ws = r at *
  obtain ⟨d, f⟩ := r
  simp only [putN] at *
  have hiff : (f = [] ∧ d.sized = true ∧ 1000 < d.size) ↔ (f = [] ∧ 1000 < d.size) := by
    constructor
    · rintro ⟨a, -, c⟩
      exact ⟨a, c⟩
    · rintro ⟨a, c⟩
      refine ⟨a, ?_, c⟩
      cases hz : d.sized
      · have := h3.zero hz
        omega
      · rfl
  simp only [hiff]
theorem parse_said (l : List UInt8) : parseSd saidN l = parseN l := by
  unfold parseSd parseN
  rw [line_said]
end Go.Proofs.YthofdmepofepgaaDoor

namespace Go.Proofs.YthofdmepofepgaaDoor
set_option linter.unusedVariables false
open Go.RowKit

section
variable {w : World} {s : Sd} {ca ta ka : Option Addr} {cc tc kc : Nat}
theorem sd_box (w : World) (s : Sd) (ca ta ka : Option Addr) (cc tc kc : Nat) (t : TypeId) : (w.alloc (.cells (sdC s ca cc ta tc ka kc) t)).cell? ⟨w.heap.size, 11, none⟩ = some (.string (mkB s.fault)) ∧ (w.alloc (.cells (sdC s ca cc ta tc ka kc) t)).cell? ⟨w.heap.size, 12, none⟩ = some (.int .u64 s.size) ∧ (w.alloc (.cells (sdC s ca cc ta tc ka kc) t)).cell? ⟨w.heap.size, 13, none⟩ = some (.bool s.sized) := by
  have h := World.alloc_heap_new w (.cells (sdC s ca cc ta tc ka kc) t)
  exact ⟨by unfold World.cell?; rw [h]; rfl, by unfold World.cell?; rw [h]; rfl, by unfold World.cell?; rw [h]; rfl⟩
set_option maxRecDepth 100000 in
set_option maxHeartbeats 1000000 in
theorem fault_any (s : Sd) (h : SdOk s) (ca ta ka : Option Addr) (cc tc kc : Nat) (w : World) : Calls Tryd.prog 20 #[.agg (sdC s ca cc ta tc ka kc)] w fun e w' => e = .returned (.string (mkB (faultSd s))) ∧ w.grownBy w' none := by
  obtain ⟨c1, c2, c3⟩ := sd_box w s ca ta ka cc tc kc 51
  have hg := World.grownBy_alloc w (.cells (sdC s ca cc ta tc ka kc) 51) none
  obtain ⟨W, hW⟩ : ∃ W, W = w.alloc (.cells (sdC s ca cc ta tc ka kc) 51) := ⟨_, rfl⟩
  obtain ⟨q, hq⟩ : ∃ q, q = w.heap.size := ⟨_, rfl⟩
  rw [← hW, ← hq] at c1 c2 c3
  rw [← hW] at hg
  obtain ⟨F, hF⟩ : ∃ F, F = faultSd s := ⟨_, rfl⟩
  rw [← hF]
  unfold faultSd at hF
  have hlo := h.lo
  have hhi := h.hi
  obtain ⟨f, hf⟩ : ∃ f, s.fault = f := ⟨_, rfl⟩
  obtain ⟨b, hb⟩ : ∃ b, s.sized = b := ⟨_, rfl⟩
  obtain ⟨z, hz⟩ : ∃ z, s.size = z := ⟨_, rfl⟩
  rw [hf, hb, hz] at hF
  rw [hf] at c1
  rw [hz] at c2 hlo hhi
  rw [hb] at c3
  simp only [sdC] at hW ⊢
  clear hf hb hz h
  cases f with
  | cons x f =>
    rw [if_neg (fun h => by cases h.1)] at hF
    subst hF
    simp only [mkB] at c1 hW ⊢
    go_enter Tryd.func20, Tryd.ntmps20
    go_upto_region 1 with fail
    rw [← hW, ← hq]
    clear hW hq
    go_wp2
    go_ret
    exact ⟨rfl, hg⟩
  | nil =>
    cases b with
    | false =>
      rw [if_neg (fun h => by cases h.2.1)] at hF
      subst hF
      simp only [mkB] at c1 hW ⊢
      go_enter Tryd.func20, Tryd.ntmps20
      go_upto_region 1 with fail
      rw [← hW, ← hq]
      clear hW hq
      go_wp2
      go_ret
      exact ⟨rfl, hg⟩
    | true =>
      by_cases hbig : 1000 < z
      · rw [if_pos ⟨rfl, rfl, hbig⟩] at hF
        subst hF
        rw [← large_is]
        simp only [mkB] at c1
        go_enter Tryd.func20, Tryd.ntmps20
        go_upto_region 1 with fail
        rw [← hW, ← hq]
        clear hW hq
        go_wp2
        go_ret
        exact ⟨rfl, hg⟩
      · rw [if_neg (fun h => hbig h.2.2)] at hF
        subst hF
        simp only [mkB] at c1 hW ⊢
        go_enter Tryd.func20, Tryd.ntmps20
        go_upto_region 1 with fail
        rw [← hW, ← hq]
        clear hW hq
        go_wp2
        go_ret
        exact ⟨rfl, hg⟩
set_option maxRecDepth 100000 in
set_option maxHeartbeats 1000000 in
theorem skip_any (s : Sd) (h : SdOk s) (ca ta ka : Option Addr) (cc tc kc : Nat) (w : World) : Calls Tryd.prog 21 #[.agg (sdC s ca cc ta tc ka kc)] w fun e w' => e = .returned (.int .i64 (skipSd s)) ∧ w.grownBy w' none := by
  obtain ⟨c1, c2, c3⟩ := sd_box w s ca ta ka cc tc kc 51
  have hg := World.grownBy_alloc w (.cells (sdC s ca cc ta tc ka kc) 51) none
  obtain ⟨W, hW⟩ : ∃ W, W = w.alloc (.cells (sdC s ca cc ta tc ka kc) 51) := ⟨_, rfl⟩
  obtain ⟨q, hq⟩ : ∃ q, q = w.heap.size := ⟨_, rfl⟩
  rw [← hW, ← hq] at c1 c2 c3
  rw [← hW] at hg
  obtain ⟨F, hF⟩ : ∃ F, F = skipSd s := ⟨_, rfl⟩
  rw [← hF]
  unfold skipSd at hF
  have hlo := h.lo
  have hhi := h.hi
  obtain ⟨b, hb⟩ : ∃ b, s.sized = b := ⟨_, rfl⟩
  obtain ⟨z, hz⟩ : ∃ z, s.size = z := ⟨_, rfl⟩
  rw [hb, hz] at hF
  rw [hz] at c2 hlo hhi
  rw [hb] at c3
  simp only [sdC] at hW ⊢
  clear hb hz h c1
  cases b with
  | false =>
    rw [if_neg (by simp)] at hF
    subst hF
    go_enter Tryd.func21, Tryd.ntmps21
    go_upto_region 1 with fail
    rw [← hW, ← hq]
    clear hW hq
    go_wp2
    go_ret
    exact ⟨rfl, hg⟩
  | true =>
    by_cases hbig : z ≤ 1073741824
    · rw [if_pos ⟨rfl, hbig⟩] at hF
      subst hF
      have hbi : ¬ (1073741824 : Int) < z := by omega
      have e1 : wrap64 z = z := by unfold wrap64; omega
      have e2 : wrap64 (z + 2) = z + 2 := by unfold wrap64; omega
      go_enter Tryd.func21, Tryd.ntmps21
      go_upto_region 1 with fail
      rw [← hW, ← hq]
      clear hW hq
      go_wp2
      go_ret
      exact ⟨rfl, hg⟩
    · rw [if_neg (fun h => hbig h.2)] at hF
      subst hF
      have hbi : (1073741824 : Int) < z := by omega
      go_enter Tryd.func21, Tryd.ntmps21
      go_upto_region 1 with fail
      rw [← hW, ← hq]
      clear hW hq
      go_wp2
      go_ret
      exact ⟨rfl, hg⟩
end
end Go.Proofs.YthofdmepofepgaaDoor
