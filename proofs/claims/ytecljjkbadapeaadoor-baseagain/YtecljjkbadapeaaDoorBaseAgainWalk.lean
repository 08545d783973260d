/- BaseAgain returns true for every text, and writes nothing that was there. Conditions: none. -/
import Derived.Test.YtecljjkbadapeaaDoorAwakeB
namespace Go.Proofs.YtecljjkbadapeaaDoor
open Go.RowKit

set_option maxHeartbeats 2000000 in
theorem baseAgain_no (s : ByteArray) (w : World) (hl : s.size ≤ 5000) (hd : decB s.data.toList = none) :
    Calls Tryd.prog 5 #[.string s] w fun e w' => e = .returned (.bool true) ∧ Below w.heap.size w w' := by
  have hli : (s.size : Int) ≤ 5000 := by omega
  have HDe := hide (fun (W : World) => decode_no s (by omega) hd W)
  clear hd
  go_enter Tryd.func5, Tryd.ntmps5
  go_wp2_with (first
    | (go_at_call 9; refine (awake_any _).mono ?_; rintro e w1 ⟨rfl, h1⟩)
    | (go_at_call 10; refine (HDe.out _).mono ?_; rintro e w3 ⟨rfl, h3⟩; have h13 := Bt h1 h3))
  go_ret
  exact ⟨rfl, h13⟩

set_option maxHeartbeats 2000000 in
theorem baseAgain_yes (s : ByteArray) (w : World) (hl : s.size ≤ 5000) (o : List Int) (hd : decB s.data.toList = some o) :
    Calls Tryd.prog 5 #[.string s] w fun e w' => e = .returned (.bool true) ∧ Below w.heap.size w w' := by
  have hli : (s.size : Int) ≤ 5000 := by omega
  have HDe := hide (fun (W : World) => decode_yes s (by omega) o hd W)
  have he : encB o = s.data.toList := (again hd).1
  have hlen : o.length ≤ 5000 := by
    have h1 := enc_len o
    have h2 : s.data.toList.length = s.size := rfl
    rw [he] at h1
    omega
  have HEn := hide (fun (W : World) (a : Option Addr) (c : Nat) (hB : Bs W a o.length c o) => by
    have := encode_any hB (by omega)
    rw [he] at this
    exact this)
  clear hd he
  obtain ⟨n, hn⟩ : ∃ n, n = o.length := ⟨_, rfl⟩
  rw [← hn] at HDe HEn
  clear hlen hn
  go_enter Tryd.func5, Tryd.ntmps5
  go_wp2_with (first
    | (go_at_call 9; refine (awake_any _).mono ?_; rintro e w1 ⟨rfl, h1⟩)
    | (go_at_call 10; refine (HDe.out _).mono ?_; rintro e w3 ⟨a3, c3, rfl, hbs, h3⟩; have h13 := Bt h1 h3)
    | (go_at_call 12; refine (HEn.out _ _ _ hbs).mono ?_; rintro e w2 ⟨rfl, h2⟩; have h12 := Bt h13 h2))
  go_ret
  exact ⟨rfl, h12⟩

set_option maxHeartbeats 2000000 in
theorem baseAgain_out (s : ByteArray) (w : World) (hl : 5000 < s.size) :
    Calls Tryd.prog 5 #[.string s] w fun e w' => e = .returned (.bool true) ∧ Below w.heap.size w w' := by
  have hli : (5000 : Int) < (s.size : Int) := by omega
  go_enter Tryd.func5, Tryd.ntmps5
  go_wp2_with (go_at_call 9; refine (awake_any _).mono ?_; rintro e w1 ⟨rfl, h1⟩)
  go_ret
  exact ⟨rfl, h1⟩

theorem baseAgain_walk (s : ByteArray) (_hs : s.size ≤ 140737488351232) (W : World) :
    Calls Tryd.prog 5 #[.string s] W fun e W' => e = .returned (.bool true) ∧ Below W.heap.size W W' := by
  by_cases h : s.size ≤ 5000
  · cases hd : decB s.data.toList with
    | none => exact baseAgain_no s W h hd
    | some o => exact baseAgain_yes s W h o hd
  · exact baseAgain_out s W (by omega)
end Go.Proofs.YtecljjkbadapeaaDoor
