/- BaseBack returns true for every bytes, and writes nothing that was there. Conditions: none. -/
import Derived.Test.YtecljjkbadapeaaDoorAwakeB
namespace Go.Proofs.YtecljjkbadapeaaDoor
open Go.RowKit

theorem size_arr (l : List UInt8) : (⟨l.toArray⟩ : ByteArray).size = l.length := by simp [ByteArray.size]

set_option maxHeartbeats 2000000 in
theorem baseBack_in (a : Option Addr) (len cap : Nat) (es : List Int) (w : World) (h : Bs w a len cap es) (hl : len ≤ 5000) :
    Calls Tryd.prog 4 #[.slice a len cap] w fun e w' => e = .returned (.bool true) ∧ Below w.heap.size w w' := by
  have hli : (len : Int) ≤ 5000 := by omega
  have hn := h.len_
  obtain ⟨S, hS⟩ : ∃ S : ByteArray, S = ⟨(encB es).toArray⟩ := ⟨_, rfl⟩
  have hsz : S.size = (len + 2) / 3 * 4 := by rw [hS, size_arr, enc_len, hn]
  have hd : decB S.data.toList = some es := by rw [hS]; exact back es h.bd
  have HEn := hide (fun (W : World) (hB : Below w.heap.size w W) => by have := encode_any (h.on hB) (by omega); rw [← hS] at this; exact this)
  have HDe := hide (fun (W : World) => decode_yes S (by omega) es hd W)
  have HV := hide (fun (W : World) (hB : Below w.heap.size w W) => conv_bs (h.on hB))
  rw [hn] at HDe
  have hsi : (S.size : Int) = ((len : Int) + 2) / 3 * 4 := by omega
  clear hd hS h hn hsz
  go_enter Tryd.func4, Tryd.ntmps4
  go_wp2_with (first
    | (go_at_call 9; refine (awake_any _).mono ?_; rintro e w1 ⟨rfl, h1⟩)
    | (go_at_call 12; refine (HEn.out _ h1).mono ?_; rintro e w2 ⟨rfl, h2⟩; have h12 := Bt h1 h2)
    | (go_at_call 10; refine (HDe.out _).mono ?_; rintro e w3 ⟨a3, c3, rfl, hbs, h3⟩; have h13 := Bt h12 h3; have hv1 := conv_bs hbs; have hv2 := HV.out _ h13))
  go_ret
  exact ⟨rfl, h13⟩

set_option maxHeartbeats 2000000 in
theorem baseBack_out (a : Option Addr) (len cap : Nat) (w : World) (hl : 5000 < len) :
    Calls Tryd.prog 4 #[.slice a len cap] w fun e w' => e = .returned (.bool true) ∧ Below w.heap.size w w' := by
  have hli : (5000 : Int) < (len : Int) := by omega
  go_enter Tryd.func4, Tryd.ntmps4
  go_wp2_with (go_at_call 9; refine (awake_any _).mono ?_; rintro e w1 ⟨rfl, h1⟩)
  go_ret
  exact ⟨rfl, h1⟩

theorem baseBack_walk (W : World) (a0 : Option Addr) (len0 cap0 : Nat) (z0 : List Int) (w0 : IsRow .u8 W a0 len0 cap0 z0) :
    Calls Tryd.prog 4 #[.slice a0 len0 cap0] W fun e W' => e = .returned (.bool true) ∧ Below W.heap.size W W' := by
  by_cases h : len0 ≤ 5000
  · exact baseBack_in a0 len0 cap0 _ W w0.bs h
  · exact baseBack_out a0 len0 cap0 W (by omega)
end Go.Proofs.YtecljjkbadapeaaDoor
