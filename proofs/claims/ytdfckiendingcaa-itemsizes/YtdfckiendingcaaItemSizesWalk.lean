/- The statement ItemSizes. Conditions: the contracts of package item. -/
import Derived.Test.YtdfckiendingcaaItemAwake
import Derived.Test.YtdfckiendingcaaItemBox
import Derived.Test.YtdfckiendingcaaByteRow
namespace Go.Proofs.Ytdfckiendingcaa
open Go.RowKit Go.Sort

set_option maxRecDepth 100000 in
set_option maxHeartbeats 8000000 in
theorem itemSizes_walk (L : ItemLib) (w : World) (key : ByteArray) (_hk : key.size ≤ 140737488351232) (a : Option Addr) (l c : Nat) (zs : List Int) (hv : IsRow .u8 w a l c zs) (a2 : Option Addr) (l2 c2 : Nat) (zs2 : List Int) (hm : IsRow .u8 w a2 l2 c2 zs2) :
    Calls Try.prog 8 #[.string key, .slice a l c, .slice a2 l2 c2] w fun x w' => x = .returned (.bool true) ∧ Below w.heap.size w w' := by
  have HA := hide (fun W => awake_is L W)
  by_cases hc : key.size ≤ 1000 ∧ l ≤ 1000 ∧ l2 ≤ 1000
  · obtain ⟨h1, h2, h3⟩ := hc
    have S1 := hide (fun W => L.size ⟨key, a, l, c, 0, 0, 0, 0, 0, false, false, false⟩ W (by show key.size ≤ _; omega) (by show l ≤ _; omega))
    have S2 := hide (fun W b cap => L.size ⟨key, b, l + l2, cap, 0, 0, 0, 0, 0, false, false, false⟩ W (by show key.size ≤ _; omega) (by show l + l2 ≤ _; omega))
    have S3 := hide (fun W => L.size ⟨⟨#[]⟩, none, 0, 0, 0, 0, 0, 0, 0, false, false, false⟩ W (by decide) (by decide))
    unfold itC at S1 S2 S3
    dsimp only at *
    have HV : Hid (∀ W, Below w.heap.size w W → IsRow .u8 W a l c zs) := fun W h => hv.below h
    have HM : Hid (∀ W, Below w.heap.size w W → IsRow .u8 W a2 l2 c2 zs2) := fun W h => hm.below h
    have k1 : ¬ (1000 : Int) < (key.size : Int) := by omega
    have k2 : ¬ (1000 : Int) < (l : Int) := by omega
    have k3 : ¬ (1000 : Int) < (l2 : Int) := by omega
    have e0 : ((⟨#[]⟩ : ByteArray).size : Int) = 0 := rfl
    rw [e0] at S3
    have e1 : wrap64 (50 + (key.size : Int) + (l : Int) + (l2 : Int)) = 50 + (key.size : Int) + (l : Int) + (l2 : Int) := wrap_id10 (by omega)
    have e2 : wrap64 (50 + (key.size : Int)) = 50 + (key.size : Int) := wrap_id10 (by omega)
    have e3 : wrap64 (50 + (key.size : Int) + (l : Int)) = 50 + (key.size : Int) + (l : Int) := wrap_id10 (by omega)
    clear L hv hm
    go_enter Try.func8, Try.ntmps8
    go_wp2_with (first
      | (go_at_call 9; refine (HA.out _).mono ?_; rintro e w1 ⟨rfl, g1⟩)
      | (have t := S1; clear t; go_at_call 15; refine (S1.out _).mono ?_; rintro e w2 ⟨rfl, g2⟩; have B2 := hide (g1.trans g2).below; clear S1)
      | (have t := B2; clear t; at_builtin; refine wpList_append_bytes rfl _ _ rfl w.heap.size (.slice none 0 0) 0 [] rfl (World.ownsRow_nil _ _ _ _) a l c zs rfl (HV.out _ B2.out) (by omega) B2.out.size ?_; intro v3 w3 o3 g3 _; rw [Nat.zero_add, List.nil_append] at o3; have B3 := hide (gr_below B2.out g3 (by intro n h; cases h)); obtain ⟨p3, q3, rfl⟩ := own_shape o3; replace o3 := hide o3; clear B2 g3)
      | (have t := B3; clear t; at_builtin; refine wpList_append_bytes rfl _ _ rfl w.heap.size _ l _ rfl o3.out a2 l2 c2 zs2 rfl (HM.out _ B3.out) (by omega) B3.out.size ?_; intro v4 w4 o4 g4 _; have B4 := hide (gr_below B3.out g4 (fun n h => (own_at o3.out h).1)); obtain ⟨p4, q4, rfl⟩ := own_shape o4; clear B3 g4 o4)
      | (have t := B4; clear t; go_at_call 15; refine (S2.out _ _ _).mono ?_; rintro e w5 ⟨rfl, g5⟩; have B5 := hide (Bt B4.out g5.below); clear S2 B4)
      | (have t := B5; clear t; go_at_call 15; refine (S3.out _).mono ?_; rintro e w6 ⟨rfl, g6⟩; have B6 := hide (Bt B5.out g6.below); clear S3 B5))
    all_goals
      go_ret
      refine ⟨?_, B6.out⟩
      first
        | rfl
        | (simp; omega)
  · clear L hv hm
    go_enter Try.func8, Try.ntmps8
    go_wp2_with (go_at_call 9; refine (HA.out _).mono ?_; rintro e w1 ⟨rfl, g1⟩)
    all_goals first | (go_ret; exact ⟨rfl, g1.below⟩) | (exfalso; omega)
end Go.Proofs.Ytdfckiendingcaa
