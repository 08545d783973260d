/- Several cells of a block that are stored, one behind the other. Conditions: none. What package frame's Key and Keyed answer, as chapter 13 says. Conditions: none of the program's variables is read. -/
import Derived.Test.YthofdmepofepgaaDoorPartsF
import Derived.Test.YthofdmepofepgaaDoorG00Joined
import Derived.Test.YthofdmepofepgaaDoorG05Joined
namespace Go.Proofs.YthofdmepofepgaaDoor
open Go.RowKit

/-- Cells of a block, some of them set. -/
def setL (cs : Array Value) (o : Nat) : List Value → Array Value
  | [] => cs
  | v :: vs => setL (cs.setIfInBounds o v) (o + 1) vs
theorem setL_heap {k : Nat} {t : TypeId} : ∀ (vs : List Value) (o : Nat) (W : World) (cs : Array Value), W.heap[k]? = some (.cells cs t (0, 0)) → (W.setCells k o vs).heap[k]? = some (.cells (setL cs o vs) t (0, 0))
  | [], _, _, _, h => h
  | v :: vs, o, W, cs, h => setL_heap vs (o + 1) (W.setCell ⟨k, o, none⟩ v) (cs.setIfInBounds o v) (heap_setCell_same W k o cs t v h)
theorem setL_grow {k : Nat} : ∀ (vs : List Value) (o : Nat) (W : World), Gr (fun j => j = k) W (W.setCells k o vs)
  | [], _, W => Gr.refl _ W
  | v :: vs, o, W => by
    have h1 : Gr (fun j => j = k) W (W.setCell ⟨k, o, none⟩ v) := ⟨rfl, rfl, rfl, by rw [World.size_setCell]; exact Nat.le_refl _, fun j _ hn => heap_setCell_other _ _ _ _ hn⟩
    exact h1.trans (setL_grow vs (o + 1) (W.setCell ⟨k, o, none⟩ v))
theorem Law.setL {w0 w : World} {k : Nat} {cs : Array Value} {t : TypeId} {R : Part} (H : Law w0 w ((boxP k (.cells cs t)).and R)) (o : Nat) (vs : List Value) : Law w0 (w.setCells k o vs) ((boxP k (.cells (setL cs o vs) t)).and R) := by
  have hg := setL_grow (k := k) vs o w
  exact H.turn (A' := boxP k (.cells (Go.Proofs.YthofdmepofepgaaDoor.setL cs o vs) t)) (setL_heap vs o w cs H.q.1) (fun j hj => Nat.lt_of_lt_of_le (H.lt j (.inl hj)).2 hg.size) hg fun j hj => .inl hj
end Go.Proofs.YthofdmepofepgaaDoor

namespace Go.Proofs.YthofdmepofepgaaDoor
open Go.RowKit

set_option maxRecDepth 100000 in
set_option maxHeartbeats 1000000 in
theorem keyed_any (s : ByteArray) (w : World) : Calls Tryd.prog 56 #[.string s] w fun e w' => e = .returned (.bool (keyedN s.data.toList)) ∧ w = w' := by
  obtain ⟨⟨l⟩⟩ := s
  cases l with
  | nil =>
    go_enter Tryd.func56, Tryd.ntmps56
    go_wp2
    go_ret
    exact ⟨rfl, rfl⟩
  | cons c t =>
    have hk : keyedN (⟨⟨c :: t⟩⟩ : ByteArray).data.toList = decide ((t.length : Int) + 1 ≤ 250) := by
      unfold keyedN
      show (decide (1 ≤ t.length + 1) && decide (t.length + 1 ≤ 250)) = _
      rw [decide_eq_true (by omega : 1 ≤ t.length + 1), Bool.true_and]
      exact decide_eq_decide.2 (by omega)
    rw [hk]
    clear hk
    go_enter Tryd.func56, Tryd.ntmps56
    go_wp2
    go_ret
    exact ⟨rfl, rfl⟩
set_option maxRecDepth 100000 in
set_option maxHeartbeats 1000000 in
theorem sign_any (c : UInt8) (w : World) : Calls Tryd.prog 55 #[.int .u8 (c.toNat : Int)] w fun e w' => e = .returned (.bool (signN c)) ∧ w = w' := by
  unfold signN
  by_cases h1 : 32 < c.toNat
  · have i1 : (32 : Int) < (c.toNat : Int) := by omega
    by_cases h2 : c.toNat = 127
    · rw [h2] at i1 ⊢
      clear h1 h2
      go_enter Tryd.func55, Tryd.ntmps55
      go_wp2
      go_ret
      exact ⟨rfl, rfl⟩
    · have i2 : ((c.toNat : Int) == 127) = false := by simp; omega
      rw [decide_eq_true h1, decide_eq_true (show c.toNat ≠ 127 from h2)]
      go_enter Tryd.func55, Tryd.ntmps55
      go_wp2
      go_ret
      exact ⟨by first | rfl | (simp; omega), rfl⟩
  · have i1 : ¬ (32 : Int) < (c.toNat : Int) := by omega
    rw [decide_eq_false h1, Bool.false_and]
    go_enter Tryd.func55, Tryd.ntmps55
    go_wp2
    go_ret
    exact ⟨rfl, rfl⟩
theorem all_at {l : List UInt8} {k : Nat} (h : k < l.length) : (l.drop k).all signN = (signN l[k] && (l.drop (k + 1)).all signN) := by
  rw [List.drop_eq_getElem_cons h]
  rfl
set_option maxRecDepth 100000 in
set_option maxHeartbeats 1000000 in
theorem every_any (s : ByteArray) (hs : s.size ≤ 250) (w : World) : Calls Tryd.prog 57 #[.string s, .func (.func 55) #[] #[]] w fun e w' => e = .returned (.bool (s.data.toList.all signN)) ∧ w = w' := by
  have hsl : s.data.toList.length = s.size := rfl
  go_enter Tryd.func57, Tryd.ntmps57
  go_wp2
  go_loopw [5, 8] (fun _ i wr => ∃ k : Nat, k ≤ s.size ∧ i = .int .i64 k ∧ Hid (s.data.toList.all signN = (s.data.toList.drop k).all signN) ∧ w = wr) (fun _ i _ => s.size - (intOf i).toNat)
  case atStart => exact ⟨0, by omega, rfl, rfl, rfl⟩
  case round =>
    obtain ⟨k, hk, rfl, HR, rfl⟩ := hrel
    by_cases hlt : k < s.size
    · have HA := hide (all_at (l := s.data.toList) (k := k) hlt)
      have HS := hide (fun W => sign_any s[k] W)
      cases hq : signN s[k] with
      | false =>
        have HF : Hid (s.data.toList.all signN = false) := by
          show _ = _
          rw [HR.out, HA.out]
          have : signN s.data.toList[k] = false := hq
          rw [this]
          rfl
        rw [hq] at HS
        clear hq HA
        go_wp2_with (go_at_call 55; refine (HS.out _).mono ?_; rintro e w1 ⟨rfl, rfl⟩)
        go_ret
        exact ⟨by rw [HF.out]; rfl, rfl⟩
      | true =>
        have HF : Hid (s.data.toList.all signN = (s.data.toList.drop (k + 1)).all signN) := by
          show _ = _
          rw [HR.out, HA.out]
          have : signN s.data.toList[k] = true := hq
          rw [this]
          rfl
        rw [hq] at HS
        clear hq HA
        go_wp2_with (go_at_call 55; refine (HS.out _).mono ?_; rintro e w1 ⟨rfl, rfl⟩)
        go_roundw
        case rel => exact ⟨k + 1, by omega, by go_num, HF, by first | trivial | rfl⟩
        case measure => first | (simp [intOf]; done) | (simp [intOf]; omega)
    · have HF : Hid (s.data.toList.all signN = true) := by
        show _ = _
        rw [HR.out, List.drop_eq_nil_of_le (by rw [hsl]; omega)]
        rfl
      go_wp2
      go_ret
      exact ⟨by rw [HF.out]; rfl, rfl⟩
set_option maxRecDepth 100000 in
set_option maxHeartbeats 1000000 in
theorem key_any (s : ByteArray) (w : World) : Calls Tryd.prog 52 #[.string s] w fun e w' => e = .returned (.bool (keyN s.data.toList)) ∧ w = w' := by
  have HK := hide (fun W => keyed_any s W)
  unfold keyN
  cases hq : keyedN s.data.toList with
  | false =>
    rw [hq] at HK
    clear hq
    go_enter Tryd.func52, Tryd.ntmps52
    go_wp2_with (go_at_call 56; refine (HK.out _).mono ?_; rintro e w1 ⟨rfl, rfl⟩)
    go_ret
    exact ⟨rfl, rfl⟩
  | true =>
    rw [hq] at HK
    have hs : s.size ≤ 250 := by
      unfold keyedN at hq
      have hsl : s.data.toList.length = s.size := rfl
      simp at hq
      omega
    have HE := hide (fun W => every_any s hs W)
    generalize s.data.toList.all signN = q at *
    clear hq
    go_enter Tryd.func52, Tryd.ntmps52
    go_wp2_with (first
      | (go_at_call 56; refine (HK.out _).mono ?_; rintro e w1 ⟨rfl, rfl⟩)
      | (go_at_call 57; refine (HE.out _).mono ?_; rintro e w1 ⟨rfl, rfl⟩))
    go_ret
    exact ⟨rfl, rfl⟩
end Go.Proofs.YthofdmepofepgaaDoor
