/- The chapter's examples, as every statement of the layer asks them first: the call returns true and writes nothing that was there. Conditions: none. -/
import Derived.Test.YtecljjkbadapeaaDoorEnc
import Derived.Test.YtecljjkbadapeaaDoorDecW
import Derived.Lib.SlBytesConst
namespace Go.Proofs.YtecljjkbadapeaaDoor
open Go.RowKit

theorem size_arr (l : List UInt8) : (⟨l.toArray⟩ : ByteArray).size = l.length := by simp [ByteArray.size]
theorem decode_no (s : ByteArray) (hs : s.size ≤ 100000) (h : decB s.data.toList = none) (w : World) :
    Calls Tryd.prog 10 #[.string s] w fun e w' => e = .returned (.tuple #[.slice none 0 0, .int .i64 2]) ∧ Below w.heap.size w w' :=
  (decode_any s hs w).mono fun e w' ⟨hb, h'⟩ => by
    rcases h' with ⟨_, he⟩ | ⟨o, v, ho, _⟩
    · exact ⟨he, hb⟩
    · rw [h] at ho; cases ho
theorem decode_yes (s : ByteArray) (hs : s.size ≤ 100000) (o : List Int) (h : decB s.data.toList = some o) (w : World) :
    Calls Tryd.prog 10 #[.string s] w fun e w' => ∃ a cap, e = .returned (.tuple #[.slice a o.length cap, .int .i64 0]) ∧ Bs w' a o.length cap o ∧ Below w.heap.size w w' :=
  (decode_any s hs w).mono fun e w' ⟨hb, h'⟩ => by
    rcases h' with ⟨hn, _⟩ | ⟨o', v, ho, he, hr⟩
    · rw [h] at hn; cases hn
    · rw [h] at ho
      cases ho
      obtain ⟨a, cap, rfl, hB⟩ := own_bs hr (again h).2
      exact ⟨a, cap, he, hB, hb⟩
theorem no1 : decB [89, 82, 61, 61] = none := by decide +kernel
theorem no2 : decB [89, 81, 61] = none := by decide +kernel
theorem no3 : decB [89, 81] = none := by decide +kernel
theorem enc_a : encB [97] = [89, 81, 61, 61] := by decide +kernel

/-- One of the chapter's three texts of no bytes. -/
def Ex (s : ByteArray) : Prop := s.data.toList = [89, 82, 61, 61] ∨ s.data.toList = [89, 81, 61] ∨ s.data.toList = [89, 81]
theorem decode_ex (s : ByteArray) (h : Ex s) (w : World) : Calls Tryd.prog 10 #[.string s] w fun e w' => e = .returned (.tuple #[.slice none 0 0, .int .i64 2]) ∧ Below w.heap.size w w' := by
  have hl : s.data.toList.length = s.size := rfl
  rcases h with h | h | h
  · exact decode_no s (by rw [← hl, h]; decide) (by rw [h]; exact no1) w
  · exact decode_no s (by rw [← hl, h]; decide) (by rw [h]; exact no2) w
  · exact decode_no s (by rw [← hl, h]; decide) (by rw [h]; exact no3) w
theorem encode_a (w W : World) (hW : W = w.alloc (.cells #[.int .u8 97] 5 (1, 2))) : Calls Tryd.prog 12 #[.slice (some ⟨w.heap.size, 0, none⟩) 1 1] W fun e w' => e = .returned (.string ⟨#[89, 81, 61, 61]⟩) ∧ Below w.heap.size w w' := by
  have hB : Below w.heap.size w W := by rw [hW]; exact (Below.refl _ _).alloc (Nat.le_refl _) _
  have hbs : Bs W (some ⟨w.heap.size, 0, none⟩) 1 1 [97] := by
    refine .inr ⟨_, 0, rfl, by decide, by decide, rfl, (by intro z hz; simp at hz; omega), fun i hi => ?_, by rw [hW]; simp⟩
    have : i = 0 := by omega
    subst this
    rw [hW]
    have hh : (w.alloc (Obj.cells #[Value.int .u8 97] 5 (1, 2))).heap[w.heap.size]? = some (Obj.cells #[Value.int .u8 97] 5 (1, 2)) := by
      show (w.heap.push _)[w.heap.size]? = _
      simp
    unfold World.cell?
    rw [hh]
    rfl
  have h := encode_any hbs (by decide)
  rw [enc_a] at h
  exact h.mono fun e w' ⟨h1, h2⟩ => ⟨h1, Bt hB h2⟩

set_option maxHeartbeats 1000000 in
theorem awake_any (w : World) : Calls Tryd.prog 9 #[] w fun e w' => e = .returned (.bool true) ∧ Below w.heap.size w w' := by
  have hB : Below w.heap.size w w := Below.refl _ _
  have kc := fun (w : World) (C : Array Value) (n c : Nat) => Lib.run_convert_bytes_const (P := Tryd.prog) w 22 5 C n c Tryd.underlying22 Tryd.underlying5
  go_enter Tryd.func9, Tryd.ntmps9
  go_wp2_with (first
    | (go_at_call 10; refine (decode_ex _ (by first | exact .inl rfl | exact .inr (.inl rfl) | exact .inr (.inr rfl)) _).mono ?_; rintro e w1 ⟨rfl, h1⟩; replace hB := Bt hB h1; clear h1)
    | (go_at_call 12; refine (encode_a _ _ rfl).mono ?_; rintro e w4 ⟨rfl, h4⟩))
  go_ret
  exact ⟨rfl, Bt hB h4⟩
end Go.Proofs.YtecljjkbadapeaaDoor
