/- FrameMore returns true for every two rows of bytes and every number, and writes nothing that was there. Conditions: none. -/
import Derived.Test.YtggaifkjmlhmlaaFrameAw
import Derived.Test.YtggaifkjmlhmlaaFrameMoreM
namespace Go.Proofs.Ytggaifkjmlhmlaa
open Go.RowKit

theorem own_grow {n0 n : Nat} {w w' : World} {v : Value} {xs : List Value} (h : w.ownsRow n0 5 1 v n xs) (hg : w.grownBy w' none) : w'.ownsRow n0 5 1 v n xs := own_same h fun k hk => hg.block k (own_at h hk).2.1 (by simp)
theorem byU_two (u v : List UInt8) : byU (u ++ v) = byU u ++ byU v := by unfold byU byV ints; simp
theorem own_two {n0 n m c : Nat} {w : World} {a : Option Addr} {u v : List UInt8} (hu : u.length = n) (hv : v.length = m) (h : w.ownsRow n0 5 1 (.slice a (n + m) c) (n + m) ([] ++ byU u ++ byU v)) : Bu w a (n + m) c (u ++ v) := by
  have hl : (u ++ v).length = n + m := by rw [List.length_append, hu, hv]
  have q : ValAt n0 w a c (u ++ v) := by
    unfold ValAt
    rw [hl, byU_two]
    exact h
  have := q.bu
  rw [hl] at this
  exact this
theorem bu_cell {w : World} {a : Option Addr} {len cap : Nat} {l : List UInt8} (h : Bu w a len cap l) (h1 : 1 ≤ len) : ∃ b off, a = some ⟨b, off, none⟩ ∧ ∀ W, Below w.heap.size w W → ∀ i, ∀ hi : i < l.length, W.cell? ⟨b, off + i, none⟩ = some (.int .u8 (l[i].toNat : Int)) := by
  rcases h.b with ⟨h4, _, _⟩ | ⟨b, off, r⟩
  · omega
  · refine ⟨b, off, r.at_, fun W hW i hi => ?_⟩
    rcases (h.on hW).b with ⟨h4, _, _⟩ | ⟨b', off', r'⟩
    · omega
    · have e := r'.at_
      rw [r.at_] at e
      cases e
      rw [r'.cell i (by rw [← h.n]; exact hi), getD_ints l i hi]
set_option maxRecDepth 100000 in
set_option maxHeartbeats 2000000 in
theorem more_wait {W : World} {a a2 : Option Addr} {len cap len2 cap2 : Nat} {u v : List UInt8} (hu : Bu W a len cap u) (hv : Bu W a2 len2 cap2 v) (hl : len ≤ 5000) (hl2 : len2 ≤ 1000) (n : Int) (hn : -9223372036854775808 ≤ n ∧ n < 9223372036854775808) (s t : List UInt8) (k m f : Int) (h1 : lineN u = (s, k, 3)) (h2 : lineN (u ++ v) = (t, m, f)) :
    Calls Try.prog 7 #[.slice a len cap, .slice a2 len2 cap2, .int .i64 n] W fun e W' => e = .returned (.bool true) ∧ Below W.heap.size W W' := by
  have hli : (len : Int) ≤ 5000 := by omega
  have hli2 : (len2 : Int) ≤ 1000 := by omega
  have HN := hide hu.n
  have HM := hide hv.n
  have HU := hide (fun (w : World) (h : Below W.heap.size W w) => hu.on h)
  have HV := hide (fun (w : World) (h : Below W.heap.size W w) => hv.on h)
  have HL := hide (fun (w : World) (h : Below W.heap.size W w) => line_any (hu.on h))
  have HL2 := hide (fun (w : World) (a2 : Option Addr) (c2 : Nat) (h : Bu w a2 (len + len2) c2 (u ++ v)) => line_any h)
  have HB := hide (fun (w : World) (h : Below W.heap.size W w) => body_any (hu.on h) n hn)
  have HB2 := hide (fun (w : World) (a2 : Option Addr) (c2 : Nat) (h : Bu w a2 (len + len2) c2 (u ++ v)) => body_any h n hn)
  rw [h1] at HL
  rw [h2] at HL2
  clear h1 h2
  rcases body_more u v n with ⟨b1, y, j, h, b2⟩ | ⟨y, j, h, b0, b1, b2⟩
  · rw [b1] at HB
    rw [b2] at HB2
    simp only [lineV, BodyEnd] at *
    clear b1 b2
    clear hu hv hl2 hl hn
    go_enter Try.func7, Try.ntmps7
    go_wp2_with (first
        | (go_at_call 9; refine (awake_any _).mono ?_; rintro e w1 ⟨rfl, g1⟩; have B1 := hide (below_gr g1); clear g1)
        | (have t := B1; clear t; at_builtin; refine wpList_append_bs rfl _ _ rfl w1.heap.size _ 0 [] rfl (World.ownsRow_nil _ _ _ _) _ len cap u rfl HN.out (HU.out _ B1.out).b (by omega) (Nat.le_refl _) ?_; intro v2 w2 o2 g2 _; rw [Nat.zero_add] at o2; obtain ⟨a2, c2, rfl⟩ := own_shape o2; replace o2 := hide o2; have B2 := hide (Bt B1.out (below_gr g2)); have N2 := hide (below_gr g2).size; have M1 := hide B1.out.size; clear g2 B1)
        | (have t := B2; clear t; at_builtin; refine wpList_append_bs rfl _ _ rfl w1.heap.size _ len _ rfl o2.out _ len2 cap2 v rfl HM.out (HV.out _ B2.out).b (by omega) N2.out ?_; intro v3 w3 o3 g3 _; obtain ⟨a3, c3, rfl⟩ := own_shape o3; have O3 := hide (own_two HN.out HM.out o3); have B3 := hide (gr_below B2.out g3 (fun j hj => Nat.le_trans M1.out (own_at o2.out hj).1)); clear g3 o3 o2 B2 N2 M1)
        | (have t := B3; clear t; go_at_call 10; refine (HL.out _ B3.out).mono ?_; rintro e w4 ⟨rfl, g4⟩; have B4 := hide (Bt B3.out (below_gr g4)); have O4 := hide (O3.out.on (below_gr g4)); clear g4 B3 O3 HL)
        | (have t := B4; clear t; go_at_call 10; refine (HL2.out _ _ _ O4.out).mono ?_; rintro e w5 ⟨rfl, g5⟩; have B5 := hide (Bt B4.out (below_gr g5)); have O5 := hide (O4.out.on (below_gr g5)); clear g5 B4 O4 HL2)
        | (have t := B5; clear t; go_at_call 12; refine (HB.out _ B5.out).mono ?_; rintro e w6 ⟨a6, c6, rfl, v6, g6⟩; have B6 := hide (Bt B5.out (below_gr g6)); have O6 := hide (O5.out.on (below_gr g6)); replace v6 := hide v6; clear g6 B5 O5 HB)
        | (have t := B6; clear t; go_at_call 12; refine (HB2.out _ _ _ O6.out).mono ?_; rintro e w7 ⟨a7, c7, rfl, v7, g7⟩; have B7 := hide (Bt B6.out (below_gr g7)); have k1 := convU (ValAt.bu (own_grow v6.out g7)); have k2 := convU (ValAt.bu v7); skip; clear g7 v7 v6 B6 O6 HB2))
    all_goals go_ret
    all_goals exact ⟨by first | rfl | (simp; done), B7.out⟩
  · rw [b1] at HB
    rw [b2] at HB2
    simp only [lineV, BodyEnd] at *
    clear b1 b2
    clear hu hv hl2 hl hn
    go_enter Try.func7, Try.ntmps7
    go_wp2_with (first
        | (go_at_call 9; refine (awake_any _).mono ?_; rintro e w1 ⟨rfl, g1⟩; have B1 := hide (below_gr g1); clear g1)
        | (have t := B1; clear t; at_builtin; refine wpList_append_bs rfl _ _ rfl w1.heap.size _ 0 [] rfl (World.ownsRow_nil _ _ _ _) _ len cap u rfl HN.out (HU.out _ B1.out).b (by omega) (Nat.le_refl _) ?_; intro v2 w2 o2 g2 _; rw [Nat.zero_add] at o2; obtain ⟨a2, c2, rfl⟩ := own_shape o2; replace o2 := hide o2; have B2 := hide (Bt B1.out (below_gr g2)); have N2 := hide (below_gr g2).size; have M1 := hide B1.out.size; clear g2 B1)
        | (have t := B2; clear t; at_builtin; refine wpList_append_bs rfl _ _ rfl w1.heap.size _ len _ rfl o2.out _ len2 cap2 v rfl HM.out (HV.out _ B2.out).b (by omega) N2.out ?_; intro v3 w3 o3 g3 _; obtain ⟨a3, c3, rfl⟩ := own_shape o3; have O3 := hide (own_two HN.out HM.out o3); have B3 := hide (gr_below B2.out g3 (fun j hj => Nat.le_trans M1.out (own_at o2.out hj).1)); clear g3 o3 o2 B2 N2 M1)
        | (have t := B3; clear t; go_at_call 10; refine (HL.out _ B3.out).mono ?_; rintro e w4 ⟨rfl, g4⟩; have B4 := hide (Bt B3.out (below_gr g4)); have O4 := hide (O3.out.on (below_gr g4)); clear g4 B3 O3 HL)
        | (have t := B4; clear t; go_at_call 10; refine (HL2.out _ _ _ O4.out).mono ?_; rintro e w5 ⟨rfl, g5⟩; have B5 := hide (Bt B4.out (below_gr g5)); have O5 := hide (O4.out.on (below_gr g5)); clear g5 B4 O4 HL2)
        | (have t := B5; clear t; go_at_call 12; refine (HB.out _ B5.out).mono ?_; rintro e w6 ⟨a6, c6, rfl, v6, g6⟩; have B6 := hide (Bt B5.out (below_gr g6)); have O6 := hide (O5.out.on (below_gr g6)); replace v6 := hide v6; clear g6 B5 O5 HB)
        | (have t := B6; clear t; go_at_call 12; refine (HB2.out _ _ _ O6.out).mono ?_; rintro e w7 ⟨a7, c7, rfl, v7, g7⟩; have B7 := hide (Bt B6.out (below_gr g7)); have k1 := convU (ValAt.bu (own_grow v6.out g7)); have k2 := convU (ValAt.bu v7); skip; clear g7 v7 v6 B6 O6 HB2))
    all_goals go_ret
    all_goals exact ⟨by first | rfl | (simp; done), B7.out⟩
set_option maxRecDepth 100000 in
set_option maxHeartbeats 2000000 in
theorem more_ok {W : World} {a a2 : Option Addr} {len cap len2 cap2 : Nat} {u v : List UInt8} (hu : Bu W a len cap u) (hv : Bu W a2 len2 cap2 v) (hl : len ≤ 5000) (hl2 : len2 ≤ 1000) (n : Int) (hn : -9223372036854775808 ≤ n ∧ n < 9223372036854775808) (s : List UInt8) (k : Int) (h1 : lineN u = (s, k, 0)) (h2 : lineN (u ++ v) = (s, k, 0)) :
    Calls Try.prog 7 #[.slice a len cap, .slice a2 len2 cap2, .int .i64 n] W fun e W' => e = .returned (.bool true) ∧ Below W.heap.size W W' := by
  have hli : (len : Int) ≤ 5000 := by omega
  have hli2 : (len2 : Int) ≤ 1000 := by omega
  have HN := hide hu.n
  have HM := hide hv.n
  have HU := hide (fun (w : World) (h : Below W.heap.size W w) => hu.on h)
  have HV := hide (fun (w : World) (h : Below W.heap.size W w) => hv.on h)
  have HL := hide (fun (w : World) (h : Below W.heap.size W w) => line_any (hu.on h))
  have HL2 := hide (fun (w : World) (a2 : Option Addr) (c2 : Nat) (h : Bu w a2 (len + len2) c2 (u ++ v)) => line_any h)
  have HB := hide (fun (w : World) (h : Below W.heap.size W w) => body_any (hu.on h) n hn)
  have HB2 := hide (fun (w : World) (a2 : Option Addr) (c2 : Nat) (h : Bu w a2 (len + len2) c2 (u ++ v)) => body_any h n hn)
  rw [h1] at HL
  rw [h2] at HL2
  clear h1 h2
  rcases body_more u v n with ⟨b1, y, j, h, b2⟩ | ⟨y, j, h, b0, b1, b2⟩
  · rw [b1] at HB
    rw [b2] at HB2
    simp only [lineV, BodyEnd] at *
    clear b1 b2
    clear hu hv hl2 hl hn
    go_enter Try.func7, Try.ntmps7
    go_wp2_with (first
        | (go_at_call 9; refine (awake_any _).mono ?_; rintro e w1 ⟨rfl, g1⟩; have B1 := hide (below_gr g1); clear g1)
        | (have t := B1; clear t; at_builtin; refine wpList_append_bs rfl _ _ rfl w1.heap.size _ 0 [] rfl (World.ownsRow_nil _ _ _ _) _ len cap u rfl HN.out (HU.out _ B1.out).b (by omega) (Nat.le_refl _) ?_; intro v2 w2 o2 g2 _; rw [Nat.zero_add] at o2; obtain ⟨a2, c2, rfl⟩ := own_shape o2; replace o2 := hide o2; have B2 := hide (Bt B1.out (below_gr g2)); have N2 := hide (below_gr g2).size; have M1 := hide B1.out.size; clear g2 B1)
        | (have t := B2; clear t; at_builtin; refine wpList_append_bs rfl _ _ rfl w1.heap.size _ len _ rfl o2.out _ len2 cap2 v rfl HM.out (HV.out _ B2.out).b (by omega) N2.out ?_; intro v3 w3 o3 g3 _; obtain ⟨a3, c3, rfl⟩ := own_shape o3; have O3 := hide (own_two HN.out HM.out o3); have B3 := hide (gr_below B2.out g3 (fun j hj => Nat.le_trans M1.out (own_at o2.out hj).1)); clear g3 o3 o2 B2 N2 M1)
        | (have t := B3; clear t; go_at_call 10; refine (HL.out _ B3.out).mono ?_; rintro e w4 ⟨rfl, g4⟩; have B4 := hide (Bt B3.out (below_gr g4)); have O4 := hide (O3.out.on (below_gr g4)); clear g4 B3 O3 HL)
        | (have t := B4; clear t; go_at_call 10; refine (HL2.out _ _ _ O4.out).mono ?_; rintro e w5 ⟨rfl, g5⟩; have B5 := hide (Bt B4.out (below_gr g5)); have O5 := hide (O4.out.on (below_gr g5)); clear g5 B4 O4 HL2)
        | (have t := B5; clear t; go_at_call 12; refine (HB.out _ B5.out).mono ?_; rintro e w6 ⟨a6, c6, rfl, v6, g6⟩; have B6 := hide (Bt B5.out (below_gr g6)); have O6 := hide (O5.out.on (below_gr g6)); replace v6 := hide v6; clear g6 B5 O5 HB)
        | (have t := B6; clear t; go_at_call 12; refine (HB2.out _ _ _ O6.out).mono ?_; rintro e w7 ⟨a7, c7, rfl, v7, g7⟩; have B7 := hide (Bt B6.out (below_gr g7)); have k1 := convU (ValAt.bu (own_grow v6.out g7)); have k2 := convU (ValAt.bu v7); skip; clear g7 v7 v6 B6 O6 HB2))
    all_goals go_ret
    all_goals exact ⟨by first | rfl | (simp; done), B7.out⟩
  · rw [b1] at HB
    rw [b2] at HB2
    simp only [lineV, BodyEnd] at *
    clear b1 b2
    clear hu hv hl2 hl hn
    go_enter Try.func7, Try.ntmps7
    go_wp2_with (first
        | (go_at_call 9; refine (awake_any _).mono ?_; rintro e w1 ⟨rfl, g1⟩; have B1 := hide (below_gr g1); clear g1)
        | (have t := B1; clear t; at_builtin; refine wpList_append_bs rfl _ _ rfl w1.heap.size _ 0 [] rfl (World.ownsRow_nil _ _ _ _) _ len cap u rfl HN.out (HU.out _ B1.out).b (by omega) (Nat.le_refl _) ?_; intro v2 w2 o2 g2 _; rw [Nat.zero_add] at o2; obtain ⟨a2, c2, rfl⟩ := own_shape o2; replace o2 := hide o2; have B2 := hide (Bt B1.out (below_gr g2)); have N2 := hide (below_gr g2).size; have M1 := hide B1.out.size; clear g2 B1)
        | (have t := B2; clear t; at_builtin; refine wpList_append_bs rfl _ _ rfl w1.heap.size _ len _ rfl o2.out _ len2 cap2 v rfl HM.out (HV.out _ B2.out).b (by omega) N2.out ?_; intro v3 w3 o3 g3 _; obtain ⟨a3, c3, rfl⟩ := own_shape o3; have O3 := hide (own_two HN.out HM.out o3); have B3 := hide (gr_below B2.out g3 (fun j hj => Nat.le_trans M1.out (own_at o2.out hj).1)); clear g3 o3 o2 B2 N2 M1)
        | (have t := B3; clear t; go_at_call 10; refine (HL.out _ B3.out).mono ?_; rintro e w4 ⟨rfl, g4⟩; have B4 := hide (Bt B3.out (below_gr g4)); have O4 := hide (O3.out.on (below_gr g4)); clear g4 B3 O3 HL)
        | (have t := B4; clear t; go_at_call 10; refine (HL2.out _ _ _ O4.out).mono ?_; rintro e w5 ⟨rfl, g5⟩; have B5 := hide (Bt B4.out (below_gr g5)); have O5 := hide (O4.out.on (below_gr g5)); clear g5 B4 O4 HL2)
        | (have t := B5; clear t; go_at_call 12; refine (HB.out _ B5.out).mono ?_; rintro e w6 ⟨a6, c6, rfl, v6, g6⟩; have B6 := hide (Bt B5.out (below_gr g6)); have O6 := hide (O5.out.on (below_gr g6)); replace v6 := hide v6; clear g6 B5 O5 HB)
        | (have t := B6; clear t; go_at_call 12; refine (HB2.out _ _ _ O6.out).mono ?_; rintro e w7 ⟨a7, c7, rfl, v7, g7⟩; have B7 := hide (Bt B6.out (below_gr g7)); have k1 := convU (ValAt.bu (own_grow v6.out g7)); have k2 := convU (ValAt.bu v7); skip; clear g7 v7 v6 B6 O6 HB2))
    all_goals go_ret
    all_goals exact ⟨by first | rfl | (simp; done), B7.out⟩
set_option maxRecDepth 100000 in
set_option maxHeartbeats 2000000 in
theorem more_long {W : World} {a a2 : Option Addr} {len cap len2 cap2 : Nat} {u v : List UInt8} (hu : Bu W a len cap u) (hv : Bu W a2 len2 cap2 v) (hl : len ≤ 5000) (hl2 : len2 ≤ 1000) (n : Int) (hn : -9223372036854775808 ≤ n ∧ n < 9223372036854775808) (k : Int) (h0 : ¬ k = (u.length : Int)) (h1 : lineN u = ([], k, 4)) (h2 : lineN (u ++ v) = ([], k, 4)) :
    Calls Try.prog 7 #[.slice a len cap, .slice a2 len2 cap2, .int .i64 n] W fun e W' => e = .returned (.bool true) ∧ Below W.heap.size W W' := by
  have hli : (len : Int) ≤ 5000 := by omega
  have hli2 : (len2 : Int) ≤ 1000 := by omega
  have HN := hide hu.n
  have HM := hide hv.n
  have HU := hide (fun (w : World) (h : Below W.heap.size W w) => hu.on h)
  have HV := hide (fun (w : World) (h : Below W.heap.size W w) => hv.on h)
  have HL := hide (fun (w : World) (h : Below W.heap.size W w) => line_any (hu.on h))
  have HL2 := hide (fun (w : World) (a2 : Option Addr) (c2 : Nat) (h : Bu w a2 (len + len2) c2 (u ++ v)) => line_any h)
  have HB := hide (fun (w : World) (h : Below W.heap.size W w) => body_any (hu.on h) n hn)
  have HB2 := hide (fun (w : World) (a2 : Option Addr) (c2 : Nat) (h : Bu w a2 (len + len2) c2 (u ++ v)) => body_any h n hn)
  rw [h1] at HL
  rw [h2] at HL2
  rw [HN.out] at h0
  clear h1 h2
  rcases body_more u v n with ⟨b1, y, j, h, b2⟩ | ⟨y, j, h, b0, b1, b2⟩
  · rw [b1] at HB
    rw [b2] at HB2
    simp only [lineV, BodyEnd] at *
    clear b1 b2
    clear hu hv hl2 hl hn
    go_enter Try.func7, Try.ntmps7
    go_wp2_with (first
        | (go_at_call 9; refine (awake_any _).mono ?_; rintro e w1 ⟨rfl, g1⟩; have B1 := hide (below_gr g1); clear g1)
        | (have t := B1; clear t; at_builtin; refine wpList_append_bs rfl _ _ rfl w1.heap.size _ 0 [] rfl (World.ownsRow_nil _ _ _ _) _ len cap u rfl HN.out (HU.out _ B1.out).b (by omega) (Nat.le_refl _) ?_; intro v2 w2 o2 g2 _; rw [Nat.zero_add] at o2; obtain ⟨a2, c2, rfl⟩ := own_shape o2; replace o2 := hide o2; have B2 := hide (Bt B1.out (below_gr g2)); have N2 := hide (below_gr g2).size; have M1 := hide B1.out.size; clear g2 B1)
        | (have t := B2; clear t; at_builtin; refine wpList_append_bs rfl _ _ rfl w1.heap.size _ len _ rfl o2.out _ len2 cap2 v rfl HM.out (HV.out _ B2.out).b (by omega) N2.out ?_; intro v3 w3 o3 g3 _; obtain ⟨a3, c3, rfl⟩ := own_shape o3; have O3 := hide (own_two HN.out HM.out o3); have B3 := hide (gr_below B2.out g3 (fun j hj => Nat.le_trans M1.out (own_at o2.out hj).1)); clear g3 o3 o2 B2 N2 M1)
        | (have t := B3; clear t; go_at_call 10; refine (HL.out _ B3.out).mono ?_; rintro e w4 ⟨rfl, g4⟩; have B4 := hide (Bt B3.out (below_gr g4)); have O4 := hide (O3.out.on (below_gr g4)); clear g4 B3 O3 HL)
        | (have t := B4; clear t; go_at_call 10; refine (HL2.out _ _ _ O4.out).mono ?_; rintro e w5 ⟨rfl, g5⟩; have B5 := hide (Bt B4.out (below_gr g5)); have O5 := hide (O4.out.on (below_gr g5)); clear g5 B4 O4 HL2)
        | (have t := B5; clear t; go_at_call 12; refine (HB.out _ B5.out).mono ?_; rintro e w6 ⟨a6, c6, rfl, v6, g6⟩; have B6 := hide (Bt B5.out (below_gr g6)); have O6 := hide (O5.out.on (below_gr g6)); replace v6 := hide v6; clear g6 B5 O5 HB)
        | (have t := B6; clear t; go_at_call 12; refine (HB2.out _ _ _ O6.out).mono ?_; rintro e w7 ⟨a7, c7, rfl, v7, g7⟩; have B7 := hide (Bt B6.out (below_gr g7)); have k1 := convU (ValAt.bu (own_grow v6.out g7)); have k2 := convU (ValAt.bu v7); skip; clear g7 v7 v6 B6 O6 HB2))
    all_goals go_ret
    all_goals exact ⟨by first | rfl | (simp; done), B7.out⟩
  · rw [b1] at HB
    rw [b2] at HB2
    simp only [lineV, BodyEnd] at *
    clear b1 b2
    clear hu hv hl2 hl hn
    go_enter Try.func7, Try.ntmps7
    go_wp2_with (first
        | (go_at_call 9; refine (awake_any _).mono ?_; rintro e w1 ⟨rfl, g1⟩; have B1 := hide (below_gr g1); clear g1)
        | (have t := B1; clear t; at_builtin; refine wpList_append_bs rfl _ _ rfl w1.heap.size _ 0 [] rfl (World.ownsRow_nil _ _ _ _) _ len cap u rfl HN.out (HU.out _ B1.out).b (by omega) (Nat.le_refl _) ?_; intro v2 w2 o2 g2 _; rw [Nat.zero_add] at o2; obtain ⟨a2, c2, rfl⟩ := own_shape o2; replace o2 := hide o2; have B2 := hide (Bt B1.out (below_gr g2)); have N2 := hide (below_gr g2).size; have M1 := hide B1.out.size; clear g2 B1)
        | (have t := B2; clear t; at_builtin; refine wpList_append_bs rfl _ _ rfl w1.heap.size _ len _ rfl o2.out _ len2 cap2 v rfl HM.out (HV.out _ B2.out).b (by omega) N2.out ?_; intro v3 w3 o3 g3 _; obtain ⟨a3, c3, rfl⟩ := own_shape o3; have O3 := hide (own_two HN.out HM.out o3); have B3 := hide (gr_below B2.out g3 (fun j hj => Nat.le_trans M1.out (own_at o2.out hj).1)); clear g3 o3 o2 B2 N2 M1)
        | (have t := B3; clear t; go_at_call 10; refine (HL.out _ B3.out).mono ?_; rintro e w4 ⟨rfl, g4⟩; have B4 := hide (Bt B3.out (below_gr g4)); have O4 := hide (O3.out.on (below_gr g4)); clear g4 B3 O3 HL)
        | (have t := B4; clear t; go_at_call 10; refine (HL2.out _ _ _ O4.out).mono ?_; rintro e w5 ⟨rfl, g5⟩; have B5 := hide (Bt B4.out (below_gr g5)); have O5 := hide (O4.out.on (below_gr g5)); clear g5 B4 O4 HL2)
        | (have t := B5; clear t; go_at_call 12; refine (HB.out _ B5.out).mono ?_; rintro e w6 ⟨a6, c6, rfl, v6, g6⟩; have B6 := hide (Bt B5.out (below_gr g6)); have O6 := hide (O5.out.on (below_gr g6)); replace v6 := hide v6; clear g6 B5 O5 HB)
        | (have t := B6; clear t; go_at_call 12; refine (HB2.out _ _ _ O6.out).mono ?_; rintro e w7 ⟨a7, c7, rfl, v7, g7⟩; have B7 := hide (Bt B6.out (below_gr g7)); have k1 := convU (ValAt.bu (own_grow v6.out g7)); have k2 := convU (ValAt.bu v7); skip; clear g7 v7 v6 B6 O6 HB2))
    all_goals go_ret
    all_goals exact ⟨by first | rfl | (simp; done), B7.out⟩
set_option maxRecDepth 100000 in
set_option maxHeartbeats 2000000 in
theorem more_early {W : World} {a a2 : Option Addr} {q cap len2 cap2 : Nat} {u v : List UInt8} (hu : Bu W a (q + 1) cap u) (hv : Bu W a2 len2 cap2 v) (hl : q + 1 ≤ 5000) (hl2 : len2 ≤ 1000) (n : Int) (hn : -9223372036854775808 ≤ n ∧ n < 9223372036854775808) (t : List UInt8) (m : Int) (h1 : lineN u = ([], (u.length : Int), 4)) (h2 : lineN (u ++ v) = (t, m, 4)) (h3 : (10 : UInt8) ∉ u) :
    Calls Try.prog 7 #[.slice a (q + 1) cap, .slice a2 len2 cap2, .int .i64 n] W fun e W' => e = .returned (.bool true) ∧ Below W.heap.size W W' := by
  have hli : (q : Int) + 1 ≤ 5000 := by omega
  have hli2 : (len2 : Int) ≤ 1000 := by omega
  have HN := hide hu.n
  have HM := hide hv.n
  have HU := hide (fun (w : World) (h : Below W.heap.size W w) => hu.on h)
  have HV := hide (fun (w : World) (h : Below W.heap.size W w) => hv.on h)
  have HL := hide (fun (w : World) (h : Below W.heap.size W w) => line_any (hu.on h))
  have HL2 := hide (fun (w : World) (a2 : Option Addr) (c2 : Nat) (h : Bu w a2 (q + 1 + len2) c2 (u ++ v)) => line_any h)
  have HB := hide (fun (w : World) (h : Below W.heap.size W w) => body_any (hu.on h) n hn)
  have HB2 := hide (fun (w : World) (a2 : Option Addr) (c2 : Nat) (h : Bu w a2 (q + 1 + len2) c2 (u ++ v)) => body_any h n hn)
  have hqi : (q : Int) ≤ 5000 := by omega
  have hq0 : (0 : Int) ≤ (q : Int) := by omega
  have e1 : wrap64 (q : Int) = (q : Int) := by unfold wrap64; omega
  have e0 : ¬ (q : Int) + 1 = 0 := by omega
  have HQ : Hid (((q + 1 : Nat) : Int) = (q : Int) + 1) := by show _ = _; omega
  obtain ⟨b, off, rfl, hcell⟩ := bu_cell hu (by omega)
  have hqu : q < u.length := by rw [HN.out]; omega
  have HC := hide (fun (w : World) (h : Below W.heap.size W w) => hcell w h q hqu)
  rw [h1, HN.out, HQ.out] at HL
  rw [h2] at HL2
  have z10 : ¬ ((u[q].toNat : Nat) : Int) = 10 := fun e => h3 (by
    have : u[q] = 10 := by
      apply UInt8.toNat.inj
      have h10 : (10 : UInt8).toNat = 10 := rfl
      omega
    rw [← this]
    exact List.getElem_mem _)
  generalize ((u[q].toNat : Nat) : Int) = z at HC z10
  clear h1 h2 hcell h3 hqu
  rcases body_more u v n with ⟨b1, y, j, h, b2⟩ | ⟨y, j, h, b0, b1, b2⟩
  · rw [b1] at HB
    rw [b2] at HB2
    simp only [lineV, BodyEnd] at *
    clear b1 b2
    clear hu hv hl2 hl hn
    go_enter Try.func7, Try.ntmps7
    go_wp2_with (first
        | (go_at_call 9; refine (awake_any _).mono ?_; rintro e w1 ⟨rfl, g1⟩; have B1 := hide (below_gr g1); clear g1)
        | (have t := B1; clear t; at_builtin; refine wpList_append_bs rfl _ _ rfl w1.heap.size _ 0 [] rfl (World.ownsRow_nil _ _ _ _) _ (q + 1) cap u rfl HN.out (HU.out _ B1.out).b (by omega) (Nat.le_refl _) ?_; intro v2 w2 o2 g2 _; rw [Nat.zero_add] at o2; obtain ⟨a2, c2, rfl⟩ := own_shape o2; replace o2 := hide o2; have B2 := hide (Bt B1.out (below_gr g2)); have N2 := hide (below_gr g2).size; have M1 := hide B1.out.size; clear g2 B1)
        | (have t := B2; clear t; at_builtin; refine wpList_append_bs rfl _ _ rfl w1.heap.size _ (q + 1) _ rfl o2.out _ len2 cap2 v rfl HM.out (HV.out _ B2.out).b (by omega) N2.out ?_; intro v3 w3 o3 g3 _; obtain ⟨a3, c3, rfl⟩ := own_shape o3; have O3 := hide (own_two HN.out HM.out o3); have B3 := hide (gr_below B2.out g3 (fun j hj => Nat.le_trans M1.out (own_at o2.out hj).1)); clear g3 o3 o2 B2 N2 M1)
        | (have t := B3; clear t; go_at_call 10; refine (HL.out _ B3.out).mono ?_; rintro e w4 ⟨rfl, g4⟩; have B4 := hide (Bt B3.out (below_gr g4)); have O4 := hide (O3.out.on (below_gr g4)); clear g4 B3 O3 HL)
        | (have t := B4; clear t; go_at_call 10; refine (HL2.out _ _ _ O4.out).mono ?_; rintro e w5 ⟨rfl, g5⟩; have B5 := hide (Bt B4.out (below_gr g5)); have O5 := hide (O4.out.on (below_gr g5)); clear g5 B4 O4 HL2)
        | (have t := B5; clear t; go_at_call 12; refine (HB.out _ B5.out).mono ?_; rintro e w6 ⟨a6, c6, rfl, v6, g6⟩; have B6 := hide (Bt B5.out (below_gr g6)); have O6 := hide (O5.out.on (below_gr g6)); replace v6 := hide v6; clear g6 B5 O5 HB)
        | (have t := B6; clear t; go_at_call 12; refine (HB2.out _ _ _ O6.out).mono ?_; rintro e w7 ⟨a7, c7, rfl, v7, g7⟩; have B7 := hide (Bt B6.out (below_gr g7)); have k1 := convU (ValAt.bu (own_grow v6.out g7)); have k2 := convU (ValAt.bu v7); have hck := HC.out _ B7.out; clear HC; clear g7 v7 v6 B6 O6 HB2))
    all_goals go_ret
    all_goals exact ⟨by first | rfl | (simp; done), B7.out⟩
  · rw [b1] at HB
    rw [b2] at HB2
    simp only [lineV, BodyEnd] at *
    clear b1 b2
    clear hu hv hl2 hl hn
    go_enter Try.func7, Try.ntmps7
    go_wp2_with (first
        | (go_at_call 9; refine (awake_any _).mono ?_; rintro e w1 ⟨rfl, g1⟩; have B1 := hide (below_gr g1); clear g1)
        | (have t := B1; clear t; at_builtin; refine wpList_append_bs rfl _ _ rfl w1.heap.size _ 0 [] rfl (World.ownsRow_nil _ _ _ _) _ (q + 1) cap u rfl HN.out (HU.out _ B1.out).b (by omega) (Nat.le_refl _) ?_; intro v2 w2 o2 g2 _; rw [Nat.zero_add] at o2; obtain ⟨a2, c2, rfl⟩ := own_shape o2; replace o2 := hide o2; have B2 := hide (Bt B1.out (below_gr g2)); have N2 := hide (below_gr g2).size; have M1 := hide B1.out.size; clear g2 B1)
        | (have t := B2; clear t; at_builtin; refine wpList_append_bs rfl _ _ rfl w1.heap.size _ (q + 1) _ rfl o2.out _ len2 cap2 v rfl HM.out (HV.out _ B2.out).b (by omega) N2.out ?_; intro v3 w3 o3 g3 _; obtain ⟨a3, c3, rfl⟩ := own_shape o3; have O3 := hide (own_two HN.out HM.out o3); have B3 := hide (gr_below B2.out g3 (fun j hj => Nat.le_trans M1.out (own_at o2.out hj).1)); clear g3 o3 o2 B2 N2 M1)
        | (have t := B3; clear t; go_at_call 10; refine (HL.out _ B3.out).mono ?_; rintro e w4 ⟨rfl, g4⟩; have B4 := hide (Bt B3.out (below_gr g4)); have O4 := hide (O3.out.on (below_gr g4)); clear g4 B3 O3 HL)
        | (have t := B4; clear t; go_at_call 10; refine (HL2.out _ _ _ O4.out).mono ?_; rintro e w5 ⟨rfl, g5⟩; have B5 := hide (Bt B4.out (below_gr g5)); have O5 := hide (O4.out.on (below_gr g5)); clear g5 B4 O4 HL2)
        | (have t := B5; clear t; go_at_call 12; refine (HB.out _ B5.out).mono ?_; rintro e w6 ⟨a6, c6, rfl, v6, g6⟩; have B6 := hide (Bt B5.out (below_gr g6)); have O6 := hide (O5.out.on (below_gr g6)); replace v6 := hide v6; clear g6 B5 O5 HB)
        | (have t := B6; clear t; go_at_call 12; refine (HB2.out _ _ _ O6.out).mono ?_; rintro e w7 ⟨a7, c7, rfl, v7, g7⟩; have B7 := hide (Bt B6.out (below_gr g7)); have k1 := convU (ValAt.bu (own_grow v6.out g7)); have k2 := convU (ValAt.bu v7); have hck := HC.out _ B7.out; clear HC; clear g7 v7 v6 B6 O6 HB2))
    all_goals go_ret
    all_goals exact ⟨by first | rfl | (simp; done), B7.out⟩
set_option maxRecDepth 100000 in
set_option maxHeartbeats 2000000 in
theorem more_last {W : World} {a a2 : Option Addr} {q cap len2 cap2 : Nat} {u v : List UInt8} (hu : Bu W a (q + 1) cap u) (hv : Bu W a2 len2 cap2 v) (hl : q + 1 ≤ 5000) (hl2 : len2 ≤ 1000) (n : Int) (hn : -9223372036854775808 ≤ n ∧ n < 9223372036854775808) (p : List UInt8) (h0 : u = p ++ [10]) (h1 : lineN u = ([], (u.length : Int), 4)) (h2 : lineN (u ++ v) = ([], (u.length : Int), 4)) :
    Calls Try.prog 7 #[.slice a (q + 1) cap, .slice a2 len2 cap2, .int .i64 n] W fun e W' => e = .returned (.bool true) ∧ Below W.heap.size W W' := by
  have hli : (q : Int) + 1 ≤ 5000 := by omega
  have hli2 : (len2 : Int) ≤ 1000 := by omega
  have HN := hide hu.n
  have HM := hide hv.n
  have HU := hide (fun (w : World) (h : Below W.heap.size W w) => hu.on h)
  have HV := hide (fun (w : World) (h : Below W.heap.size W w) => hv.on h)
  have HL := hide (fun (w : World) (h : Below W.heap.size W w) => line_any (hu.on h))
  have HL2 := hide (fun (w : World) (a2 : Option Addr) (c2 : Nat) (h : Bu w a2 (q + 1 + len2) c2 (u ++ v)) => line_any h)
  have HB := hide (fun (w : World) (h : Below W.heap.size W w) => body_any (hu.on h) n hn)
  have HB2 := hide (fun (w : World) (a2 : Option Addr) (c2 : Nat) (h : Bu w a2 (q + 1 + len2) c2 (u ++ v)) => body_any h n hn)
  have hqi : (q : Int) ≤ 5000 := by omega
  have hq0 : (0 : Int) ≤ (q : Int) := by omega
  have e1 : wrap64 (q : Int) = (q : Int) := by unfold wrap64; omega
  have e0 : ¬ (q : Int) + 1 = 0 := by omega
  have HQ : Hid (((q + 1 : Nat) : Int) = (q : Int) + 1) := by show _ = _; omega
  obtain ⟨b, off, rfl, hcell⟩ := bu_cell hu (by omega)
  have hqu : q < u.length := by rw [HN.out]; omega
  have HC := hide (fun (w : World) (h : Below W.heap.size W w) => hcell w h q hqu)
  rw [h1, HN.out, HQ.out] at HL
  rw [h2, HN.out, HQ.out] at HL2
  have z10 : ((u[q].toNat : Nat) : Int) = 10 := by
    subst h0
    have hp : p.length = q := by have := HN.out; rw [List.length_append] at this; simpa using this
    subst hp
    simp
  rw [z10] at HC
  clear h1 h2 hcell h0 hqu z10
  rcases body_more u v n with ⟨b1, y, j, h, b2⟩ | ⟨y, j, h, b0, b1, b2⟩
  · rw [b1] at HB
    rw [b2] at HB2
    simp only [lineV, BodyEnd] at *
    clear b1 b2
    clear hu hv hl2 hl hn
    go_enter Try.func7, Try.ntmps7
    go_wp2_with (first
        | (go_at_call 9; refine (awake_any _).mono ?_; rintro e w1 ⟨rfl, g1⟩; have B1 := hide (below_gr g1); clear g1)
        | (have t := B1; clear t; at_builtin; refine wpList_append_bs rfl _ _ rfl w1.heap.size _ 0 [] rfl (World.ownsRow_nil _ _ _ _) _ (q + 1) cap u rfl HN.out (HU.out _ B1.out).b (by omega) (Nat.le_refl _) ?_; intro v2 w2 o2 g2 _; rw [Nat.zero_add] at o2; obtain ⟨a2, c2, rfl⟩ := own_shape o2; replace o2 := hide o2; have B2 := hide (Bt B1.out (below_gr g2)); have N2 := hide (below_gr g2).size; have M1 := hide B1.out.size; clear g2 B1)
        | (have t := B2; clear t; at_builtin; refine wpList_append_bs rfl _ _ rfl w1.heap.size _ (q + 1) _ rfl o2.out _ len2 cap2 v rfl HM.out (HV.out _ B2.out).b (by omega) N2.out ?_; intro v3 w3 o3 g3 _; obtain ⟨a3, c3, rfl⟩ := own_shape o3; have O3 := hide (own_two HN.out HM.out o3); have B3 := hide (gr_below B2.out g3 (fun j hj => Nat.le_trans M1.out (own_at o2.out hj).1)); clear g3 o3 o2 B2 N2 M1)
        | (have t := B3; clear t; go_at_call 10; refine (HL.out _ B3.out).mono ?_; rintro e w4 ⟨rfl, g4⟩; have B4 := hide (Bt B3.out (below_gr g4)); have O4 := hide (O3.out.on (below_gr g4)); clear g4 B3 O3 HL)
        | (have t := B4; clear t; go_at_call 10; refine (HL2.out _ _ _ O4.out).mono ?_; rintro e w5 ⟨rfl, g5⟩; have B5 := hide (Bt B4.out (below_gr g5)); have O5 := hide (O4.out.on (below_gr g5)); clear g5 B4 O4 HL2)
        | (have t := B5; clear t; go_at_call 12; refine (HB.out _ B5.out).mono ?_; rintro e w6 ⟨a6, c6, rfl, v6, g6⟩; have B6 := hide (Bt B5.out (below_gr g6)); have O6 := hide (O5.out.on (below_gr g6)); replace v6 := hide v6; clear g6 B5 O5 HB)
        | (have t := B6; clear t; go_at_call 12; refine (HB2.out _ _ _ O6.out).mono ?_; rintro e w7 ⟨a7, c7, rfl, v7, g7⟩; have B7 := hide (Bt B6.out (below_gr g7)); have k1 := convU (ValAt.bu (own_grow v6.out g7)); have k2 := convU (ValAt.bu v7); have hck := HC.out _ B7.out; clear HC; clear g7 v7 v6 B6 O6 HB2))
    all_goals go_ret
    all_goals exact ⟨by first | rfl | (simp; done), B7.out⟩
  · rw [b1] at HB
    rw [b2] at HB2
    simp only [lineV, BodyEnd] at *
    clear b1 b2
    clear hu hv hl2 hl hn
    go_enter Try.func7, Try.ntmps7
    go_wp2_with (first
        | (go_at_call 9; refine (awake_any _).mono ?_; rintro e w1 ⟨rfl, g1⟩; have B1 := hide (below_gr g1); clear g1)
        | (have t := B1; clear t; at_builtin; refine wpList_append_bs rfl _ _ rfl w1.heap.size _ 0 [] rfl (World.ownsRow_nil _ _ _ _) _ (q + 1) cap u rfl HN.out (HU.out _ B1.out).b (by omega) (Nat.le_refl _) ?_; intro v2 w2 o2 g2 _; rw [Nat.zero_add] at o2; obtain ⟨a2, c2, rfl⟩ := own_shape o2; replace o2 := hide o2; have B2 := hide (Bt B1.out (below_gr g2)); have N2 := hide (below_gr g2).size; have M1 := hide B1.out.size; clear g2 B1)
        | (have t := B2; clear t; at_builtin; refine wpList_append_bs rfl _ _ rfl w1.heap.size _ (q + 1) _ rfl o2.out _ len2 cap2 v rfl HM.out (HV.out _ B2.out).b (by omega) N2.out ?_; intro v3 w3 o3 g3 _; obtain ⟨a3, c3, rfl⟩ := own_shape o3; have O3 := hide (own_two HN.out HM.out o3); have B3 := hide (gr_below B2.out g3 (fun j hj => Nat.le_trans M1.out (own_at o2.out hj).1)); clear g3 o3 o2 B2 N2 M1)
        | (have t := B3; clear t; go_at_call 10; refine (HL.out _ B3.out).mono ?_; rintro e w4 ⟨rfl, g4⟩; have B4 := hide (Bt B3.out (below_gr g4)); have O4 := hide (O3.out.on (below_gr g4)); clear g4 B3 O3 HL)
        | (have t := B4; clear t; go_at_call 10; refine (HL2.out _ _ _ O4.out).mono ?_; rintro e w5 ⟨rfl, g5⟩; have B5 := hide (Bt B4.out (below_gr g5)); have O5 := hide (O4.out.on (below_gr g5)); clear g5 B4 O4 HL2)
        | (have t := B5; clear t; go_at_call 12; refine (HB.out _ B5.out).mono ?_; rintro e w6 ⟨a6, c6, rfl, v6, g6⟩; have B6 := hide (Bt B5.out (below_gr g6)); have O6 := hide (O5.out.on (below_gr g6)); replace v6 := hide v6; clear g6 B5 O5 HB)
        | (have t := B6; clear t; go_at_call 12; refine (HB2.out _ _ _ O6.out).mono ?_; rintro e w7 ⟨a7, c7, rfl, v7, g7⟩; have B7 := hide (Bt B6.out (below_gr g7)); have k1 := convU (ValAt.bu (own_grow v6.out g7)); have k2 := convU (ValAt.bu v7); have hck := HC.out _ B7.out; clear HC; clear g7 v7 v6 B6 O6 HB2))
    all_goals go_ret
    all_goals exact ⟨by first | rfl | (simp; done), B7.out⟩
set_option maxRecDepth 100000 in
set_option maxHeartbeats 1000000 in
theorem frameMore_walk (W : World) (a0 : Option Addr) (len0 cap0 : Nat) (z0 : List Int) (w0 : IsRow .u8 W a0 len0 cap0 z0) (a1 : Option Addr) (len1 cap1 : Nat) (z1 : List Int) (w1 : IsRow .u8 W a1 len1 cap1 z1) (a2 : Int) (w2 : (Lit.int .i64 a2).wf = true) :
    Calls Try.prog 7 #[.slice a0 len0 cap0, .slice a1 len1 cap1, .int .i64 a2] W fun e W' => e = .returned (.bool true) ∧ Below W.heap.size W W' := by
  obtain ⟨u, hu⟩ := Bu.of w0
  obtain ⟨v, hv⟩ := Bu.of w1
  by_cases hl : len0 ≤ 5000
  · by_cases hl2 : len1 ≤ 1000
    · rcases line_more u v with ⟨s, t, k, m, f, h1, h2⟩ | ⟨t, m, h1, h2, h3, h4⟩ | ⟨s, k, h1, h2⟩ | ⟨p, h0, h1, h2⟩ | ⟨k, h0, h1, h2⟩
      · exact more_wait hu hv hl hl2 a2 (i64_wf w2) s t k m f h1 h2
      · obtain ⟨q, rfl⟩ : ∃ q, len0 = q + 1 := ⟨len0 - 1, by have := hu.n; omega⟩
        exact more_early hu hv hl hl2 a2 (i64_wf w2) t m h1 h2 h3
      · exact more_ok hu hv hl hl2 a2 (i64_wf w2) s k h1 h2
      · obtain ⟨q, rfl⟩ : ∃ q, len0 = q + 1 := ⟨len0 - 1, by have := hu.n; rw [h0, List.length_append] at this; simp at this; omega⟩
        exact more_last hu hv hl hl2 a2 (i64_wf w2) p h0 h1 h2
      · exact more_long hu hv hl hl2 a2 (i64_wf w2) k h0 h1 h2
    · have hli : (len0 : Int) ≤ 5000 := by omega
      have hli2 : (1000 : Int) < (len1 : Int) := by omega
      go_enter Try.func7, Try.ntmps7
      go_wp2_with (go_at_call 9; refine (awake_any _).mono ?_; rintro e w1 ⟨rfl, g1⟩)
      go_ret
      exact ⟨rfl, below_gr g1⟩
  · have hli : (5000 : Int) < (len0 : Int) := by omega
    go_enter Try.func7, Try.ntmps7
    go_wp2_with (go_at_call 9; refine (awake_any _).mono ?_; rintro e w1 ⟨rfl, g1⟩)
    go_ret
    exact ⟨rfl, below_gr g1⟩
end Go.Proofs.Ytggaifkjmlhmlaa
