/- BaseEncodes returns true for every bytes and every text, and writes nothing that was there. Conditions: none. -/
import Derived.Test.YtecljjkbadapeaaDoorRefDecW
namespace Go.Proofs.YtecljjkbadapeaaDoor
open Go.RowKit

theorem refDecode_no (s : ByteArray) (hs : s.size ≤ 100000) (h : decB s.data.toList = none) (w : World) :
    Calls Tryd.prog 11 #[.string s] w fun e w' => e = .returned (.tuple #[.slice none 0 0, .int .i64 2]) ∧ Below w.heap.size w w' :=
  (refDecode_any s hs w).mono fun e w' ⟨hb, h'⟩ => by
    rcases h' with ⟨_, he⟩ | ⟨o, v, ho, _⟩
    · exact ⟨he, hb⟩
    · rw [h] at ho; cases ho
theorem refDecode_yes (s : ByteArray) (hs : s.size ≤ 100000) (o : List Int) (h : decB s.data.toList = some o) (w : World) :
    Calls Tryd.prog 11 #[.string s] w fun e w' => ∃ a cap, e = .returned (.tuple #[.slice a o.length cap, .int .i64 0]) ∧ Bs w' a o.length cap o ∧ Below w.heap.size w w' :=
  (refDecode_any s hs w).mono fun e w' ⟨hb, h'⟩ => by
    rcases h' with ⟨hn, _⟩ | ⟨o', v, ho, he, hr⟩
    · rw [h] at hn; cases hn
    · rw [h] at ho
      cases ho
      obtain ⟨a, cap, rfl, hB⟩ := own_bs hr (again h).2
      exact ⟨a, cap, he, hB, hb⟩

set_option maxHeartbeats 4000000 in
theorem baseEncodes_no (a : Option Addr) (len cap : Nat) (es : List Int) (s : ByteArray) (w : World) (h : Bs w a len cap es) (hl : len ≤ 5000) (hs : s.size ≤ 5000) (hd : decB s.data.toList = none) :
    Calls Tryd.prog 3 #[.slice a len cap, .string s] w fun e w' => e = .returned (.bool true) ∧ Below w.heap.size w w' := by
  have hli : (len : Int) ≤ 5000 := by omega
  have hsi : (s.size : Int) ≤ 5000 := by omega
  obtain ⟨S, hS⟩ : ∃ S : ByteArray, S = ⟨(encB es).toArray⟩ := ⟨_, rfl⟩
  have HE := hide (fun (W : World) (hB : Below w.heap.size w W) => by have := encode_any (h.on hB) (by omega); rw [← hS] at this; exact this)
  have HF := hide (fun (W : World) (hB : Below w.heap.size w W) => by have := refEncode_any (h.on hB) (by omega); rw [← hS] at this; exact this)
  have HD := hide (fun (W : World) => decode_no s (by omega) hd W)
  have HG := hide (fun (W : World) => refDecode_no s (by omega) hd W)
  have kn := fun (W : World) => conv_bs (w := W) (a := none) (len := 0) (cap := 0) (es := []) (.inl ⟨rfl, rfl, fun _ => rfl⟩)
  clear hS h hd
  go_enter Tryd.func3, Tryd.ntmps3
  go_wp2_with (first
    | (go_at_call 9; refine (awake_any _).mono ?_; rintro e w1 ⟨rfl, h1⟩)
    | (go_at_call 10; refine (HD.out _).mono ?_; rintro e w2 ⟨rfl, h2⟩; have h12 := Bt h1 h2)
    | (go_at_call 11; refine (HG.out _).mono ?_; rintro e w3 ⟨rfl, h3⟩; have h13 := Bt h12 h3)
    | (go_at_call 12; refine (HE.out _ h13).mono ?_; rintro e w4 ⟨rfl, h4⟩; have h14 := Bt h13 h4)
    | (go_at_call 13; refine (HF.out _ h14).mono ?_; rintro e w5 ⟨rfl, h5⟩; have h15 := Bt h14 h5))
  go_ret
  exact ⟨rfl, h15⟩

set_option maxHeartbeats 4000000 in
theorem baseEncodes_yes (a : Option Addr) (len cap : Nat) (es : List Int) (s : ByteArray) (w : World) (h : Bs w a len cap es) (hl : len ≤ 5000) (hs : s.size ≤ 5000) (o : List Int) (hd : decB s.data.toList = some o) :
    Calls Tryd.prog 3 #[.slice a len cap, .string s] w fun e w' => e = .returned (.bool true) ∧ Below w.heap.size w w' := by
  have hli : (len : Int) ≤ 5000 := by omega
  have hsi : (s.size : Int) ≤ 5000 := by omega
  obtain ⟨S, hS⟩ : ∃ S : ByteArray, S = ⟨(encB es).toArray⟩ := ⟨_, rfl⟩
  have HE := hide (fun (W : World) (hB : Below w.heap.size w W) => by have := encode_any (h.on hB) (by omega); rw [← hS] at this; exact this)
  have HF := hide (fun (W : World) (hB : Below w.heap.size w W) => by have := refEncode_any (h.on hB) (by omega); rw [← hS] at this; exact this)
  have HD := hide (fun (W : World) => decode_yes s (by omega) o hd W)
  have HG := hide (fun (W : World) => refDecode_yes s (by omega) o hd W)
  obtain ⟨n, hn⟩ : ∃ n, n = o.length := ⟨_, rfl⟩
  rw [← hn] at HD HG
  clear hS h hd hn
  go_enter Tryd.func3, Tryd.ntmps3
  go_wp2_with (first
    | (go_at_call 9; refine (awake_any _).mono ?_; rintro e w1 ⟨rfl, h1⟩)
    | (go_at_call 10; refine (HD.out _).mono ?_; rintro e w2 ⟨a2, c2, rfl, b2, h2⟩; have h12 := Bt h1 h2)
    | (go_at_call 11; refine (HG.out _).mono ?_; rintro e w3 ⟨a3, c3, rfl, b3, h3⟩; have h13 := Bt h12 h3; have d2 := b2.on h3; clear b2)
    | (go_at_call 12; refine (HE.out _ h13).mono ?_; rintro e w4 ⟨rfl, h4⟩; have h14 := Bt h13 h4; have d3 := b3.on h4; have d4 := d2.on h4; clear b3 d2)
    | (go_at_call 13; refine (HF.out _ h14).mono ?_; rintro e w5 ⟨rfl, h5⟩; have h15 := Bt h14 h5; have v3 := conv_bs (d3.on h5); have v4 := conv_bs (d4.on h5); clear d3 d4))
  go_ret
  exact ⟨rfl, h15⟩

set_option maxHeartbeats 2000000 in
theorem baseEncodes_out (a : Option Addr) (len cap : Nat) (s : ByteArray) (w : World) (hl : 5000 < len ∨ (len ≤ 5000 ∧ 5000 < s.size)) :
    Calls Tryd.prog 3 #[.slice a len cap, .string s] w fun e w' => e = .returned (.bool true) ∧ Below w.heap.size w w' := by
  rcases hl with h | ⟨h, h2⟩
  · have i0 : (5000 : Int) < (len : Int) := by omega
    go_enter Tryd.func3, Tryd.ntmps3
    go_wp2_with (go_at_call 9; refine (awake_any _).mono ?_; rintro e w1 ⟨rfl, h1⟩)
    go_ret
    exact ⟨rfl, h1⟩
  · have i0 : (len : Int) ≤ 5000 := by omega
    have i1 : (5000 : Int) < (s.size : Int) := by omega
    go_enter Tryd.func3, Tryd.ntmps3
    go_wp2_with (go_at_call 9; refine (awake_any _).mono ?_; rintro e w1 ⟨rfl, h1⟩)
    go_ret
    exact ⟨rfl, h1⟩

theorem baseEncodes_walk (W : World) (a0 : Option Addr) (len0 cap0 : Nat) (z0 : List Int) (w0 : IsRow .u8 W a0 len0 cap0 z0) (s : ByteArray) (_hs : s.size ≤ 140737488351232) :
    Calls Tryd.prog 3 #[.slice a0 len0 cap0, .string s] W fun e W' => e = .returned (.bool true) ∧ Below W.heap.size W W' := by
  by_cases h : len0 ≤ 5000 ∧ s.size ≤ 5000
  · cases hd : decB s.data.toList with
    | none => exact baseEncodes_no a0 len0 cap0 _ s W w0.bs h.1 h.2 hd
    | some o => exact baseEncodes_yes a0 len0 cap0 _ s W w0.bs h.1 h.2 o hd
  · exact baseEncodes_out a0 len0 cap0 s W (by omega)
end Go.Proofs.YtecljjkbadapeaaDoor
