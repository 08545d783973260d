/- BaseJoins returns true for every two bytes, and writes nothing that was there. Conditions: none. -/
import Derived.Test.YtecljjkbadapeaaDoorAwakeB
import Derived.Test.YtecljjkbadapeaaDoorAppRun
namespace Go.Proofs.YtecljjkbadapeaaDoor
open Go.RowKit

theorem cs_one (zs : List Int) : ∀ u ∈ cs zs, u.oneCell' = true := by
  intro u hu
  unfold cs at hu
  obtain ⟨z, _, rfl⟩ := List.mem_map.1 hu
  rfl
/-- append of all bytes that lie in memory. -/
theorem app_bs {w : World} {base n : Nat} {v : Value} {xs : List Int} {a : Option Addr} {len cap : Nat} {es : List Int} (h : Bs w a len cap es) (ho : w.ownsRow base 5 1 v n (cs xs)) (hb : base ≤ w.heap.size) (hroom : n + len ≤ 100000) :
    ∃ v' w', (Builtin.append_ #[22, 22] 22 #[v, .slice a len cap]).run Tryd.prog w = .ok v' w' ∧ w'.ownsRow base 5 1 v' (n + len) (cs (xs ++ es)) ∧ w.grownBy w' v.ownBlock := by
  obtain ⟨i0, hi, hz0, hz1, hz2⟩ := info_parts info_u8
  have key : ∀ (x : Addr) (hl : es.length = len) (hc : ∀ j u, (cs es)[j]? = some u → w.cell? (x.add j) = some u), ∃ v' w', (Builtin.append_ #[22, 22] 22 #[v, .slice (some x) len cap]).run Tryd.prog w = .ok v' w' ∧ w'.ownsRow base 5 1 v' (n + len) (cs (xs ++ es)) ∧ w.grownBy w' v.ownBlock := by
    intro x hl hc
    obtain ⟨v', w', h1, h2, h3, _⟩ := run_append_own (P := Tryd.prog) w base 22 22 5 i0 (.int .u8 0) 1 1 Tryd.underlying22 hi hz0 hz1 hz2 rfl (by decide) v n _ ho x len cap (cs es) (by rw [cs_len]; omega) hc (cs_one _) (by unfold maxLen; omega) (by omega) hb
    exact ⟨v', w', h1, by rw [cs_app]; exact h2, h3⟩
  rcases h with ⟨rfl, rfl, ha⟩ | ⟨b, off, r⟩
  · cases a with
    | none =>
      have hc := ha rfl
      subst hc
      refine ⟨v, w, run_append_owned_none (P := Tryd.prog) (w := w) base 22 22 5 i0 1 Tryd.underlying22 hi v n _ ho, ?_, ⟨rfl, rfl, rfl, Nat.le_refl _, fun _ _ _ => rfl⟩⟩
      simpa using ho
    | some x => exact key x rfl (fun j u hj => by simp [cs] at hj)
  · have e := r.at_
    subst e
    refine key _ r.len_ (fun j u hj => ?_)
    have hjl : j < len := by
      rcases Nat.lt_or_ge j len with h' | h'
      · exact h'
      · rw [List.getElem?_eq_none (by rw [cs_len, r.len_]; exact h')] at hj; cases hj
    have hj2 : j < es.length := by rw [r.len_]; exact hjl
    rw [cs, List.getElem?_map, List.getElem?_eq_getElem hj2] at hj
    simp only [Option.map_some, Option.some.injEq] at hj
    rw [add_at, r.cell j hjl, ← hj]
    simp [List.getD, List.getElem?_eq_getElem hj2]

theorem arr_app (a b : List UInt8) : (⟨a.toArray⟩ : ByteArray) ++ ⟨b.toArray⟩ = ⟨(a ++ b).toArray⟩ := by
  apply ByteArray.ext
  simp [ByteArray.data_append]

set_option maxHeartbeats 4000000 in
theorem baseJoins_in (a0 : Option Addr) (l0 c0 : Nat) (e0 : List Int) (a1 : Option Addr) (l1 c1 : Nat) (e1 : List Int) (w : World) (h0 : Bs w a0 l0 c0 e0) (h1 : Bs w a1 l1 c1 e1) (hl0 : l0 ≤ 3000) (hl1 : l1 ≤ 3000) (h3 : l0 % 3 = 0) :
    Calls Tryd.prog 6 #[.slice a0 l0 c0, .slice a1 l1 c1] w fun e w' => e = .returned (.bool true) ∧ Below w.heap.size w w' := by
  have i0 : (l0 : Int) ≤ 3000 := by omega
  have i1 : (l1 : Int) ≤ 3000 := by omega
  have i3 : (l0 : Int) % 3 = 0 := by omega
  obtain ⟨S0, hS0⟩ : ∃ S : ByteArray, S = ⟨(encB e0).toArray⟩ := ⟨_, rfl⟩
  obtain ⟨S1, hS1⟩ : ∃ S : ByteArray, S = ⟨(encB e1).toArray⟩ := ⟨_, rfl⟩
  have HJ : Hid ((⟨(encB (e0 ++ e1)).toArray⟩ : ByteArray) = S0 ++ S1) := by
    show _ = _
    rw [hS0, hS1, arr_app, enc_join e0 e1 (by rw [h0.len_]; exact h3)]
  have hs : S0.size + S1.size ≤ 9223372036854775807 := by
    rw [hS0, hS1, size_arr, size_arr, enc_len, enc_len, h0.len_, h1.len_]
    omega
  have G0 := hide (fun (W : World) (hB : Below w.heap.size w W) => by have := encode_any (h0.on hB) (by omega); rw [← hS0] at this; exact this)
  have G1 := hide (fun (W : World) (hB : Below w.heap.size w W) => by have := encode_any (h1.on hB) (by omega); rw [← hS1] at this; exact this)
  clear hS0 hS1
  have H0 := hide h0
  have H1 := hide h1
  clear h0 h1
  go_enter Tryd.func6, Tryd.ntmps6
  go_wp2_with (first
    | (go_at_call 9; refine (awake_any _).mono ?_; rintro e w1 ⟨rfl, hb⟩; obtain ⟨v2, w2, hr2, ho2, hg2⟩ := app_bs (base := w1.heap.size) (n := 0) (v := .slice none 0 0) (xs := []) (H0.out.on hb) (World.ownsRow_nil _ _ _ _) (Nat.le_refl _) (by omega); rw [Nat.zero_add] at ho2; have hb2 : Below w1.heap.size w1 w2 := grown_below (World.ownsRow_nil w1 w1.heap.size 5 1) hg2 (Nat.le_refl _); obtain ⟨v3, w3, hr3, ho3, hg3⟩ := app_bs (H1.out.on (Bt hb hb2)) ho2 hb2.size (by omega); have hb3 : Below w1.heap.size w2 w3 := grown_below ho2 hg3 hb2.size; have hb13 := Bt hb (hb2.trans hb3); have R2 := hide hr2; have R3 := hide hr3; rw [List.nil_append] at ho3; obtain ⟨a4, c4, rfl, hbs⟩ := own_bs ho3 (byt_app H0.out.bd H1.out.bd); have G2 := hide (encode_any hbs (by omega)); rw [HJ.out] at G2; clear hr2 hr3 ho2 ho3 hg2 hg3 hb2 hb3 hbs H0 H1 HJ)
    | (at_builtin; refine wpList_append_run (by rfl) _ _ _ _ rfl rfl _ _ _ _ rfl rfl R2.out ?_; clear R2)
    | (at_builtin; refine wpList_append_run (by rfl) _ _ _ _ rfl rfl _ _ _ _ rfl rfl R3.out ?_; clear R3)
    | (go_at_call 12; refine G2.out.mono ?_; clear G2; rintro e w4 ⟨rfl, h4⟩; have hb14 := Bt hb13 h4)
    | (go_at_call 12; refine (G0.out _ hb14).mono ?_; clear G0; rintro e w5 ⟨rfl, h5⟩; have hb15 := Bt hb14 h5)
    | (go_at_call 12; refine (G1.out _ hb15).mono ?_; clear G1; rintro e w6 ⟨rfl, h6⟩; have hb16 := Bt hb15 h6))
  go_ret
  exact ⟨rfl, hb16⟩

set_option maxHeartbeats 2000000 in
theorem baseJoins_out (a0 : Option Addr) (l0 c0 : Nat) (a1 : Option Addr) (l1 c1 : Nat) (w : World) (hl : 3000 < l0 ∨ (l0 ≤ 3000 ∧ 3000 < l1) ∨ (l0 ≤ 3000 ∧ l1 ≤ 3000 ∧ ¬ l0 % 3 = 0)) :
    Calls Tryd.prog 6 #[.slice a0 l0 c0, .slice a1 l1 c1] w fun e w' => e = .returned (.bool true) ∧ Below w.heap.size w w' := by
  rcases hl with h | ⟨h, h2⟩ | ⟨h, h2, h3⟩
  · have i0 : (3000 : Int) < (l0 : Int) := by omega
    go_enter Tryd.func6, Tryd.ntmps6
    go_wp2_with (go_at_call 9; refine (awake_any _).mono ?_; rintro e w1 ⟨rfl, hb⟩)
    go_ret
    exact ⟨rfl, hb⟩
  · have i0 : (l0 : Int) ≤ 3000 := by omega
    have i1 : (3000 : Int) < (l1 : Int) := by omega
    go_enter Tryd.func6, Tryd.ntmps6
    go_wp2_with (go_at_call 9; refine (awake_any _).mono ?_; rintro e w1 ⟨rfl, hb⟩)
    go_ret
    exact ⟨rfl, hb⟩
  · have i0 : (l0 : Int) ≤ 3000 := by omega
    have i1 : (l1 : Int) ≤ 3000 := by omega
    have i3 : ((l0 : Int) % 3 != 0) = true := by simp; omega
    go_enter Tryd.func6, Tryd.ntmps6
    go_wp2_with (go_at_call 9; refine (awake_any _).mono ?_; rintro e w1 ⟨rfl, hb⟩)
    go_ret
    exact ⟨rfl, hb⟩

theorem baseJoins_walk (W : World) (a0 : Option Addr) (len0 cap0 : Nat) (z0 : List Int) (w0 : IsRow .u8 W a0 len0 cap0 z0) (a1 : Option Addr) (len1 cap1 : Nat) (z1 : List Int) (w1 : IsRow .u8 W a1 len1 cap1 z1) :
    Calls Tryd.prog 6 #[.slice a0 len0 cap0, .slice a1 len1 cap1] W fun e W' => e = .returned (.bool true) ∧ Below W.heap.size W W' := by
  by_cases h : len0 ≤ 3000 ∧ len1 ≤ 3000 ∧ len0 % 3 = 0
  · exact baseJoins_in a0 len0 cap0 _ a1 len1 cap1 _ W w0.bs w1.bs h.1 h.2.1 h.2.2
  · exact baseJoins_out a0 len0 cap0 a1 len1 cap1 W (by omega)
end Go.Proofs.YtecljjkbadapeaaDoor
