/- FrameLines returns true for every bytes and every number, and writes nothing that was there. Conditions: none. -/
import Derived.Test.YtggaifkjmlhmlaaFrameAw
import Derived.Test.YtggaifkjmlhmlaaFrameRefL
namespace Go.Proofs.Ytggaifkjmlhmlaa
open Go.RowKit

theorem own_grow {n0 n : Nat} {w w' : World} {v : Value} {xs : List Value} (h : w.ownsRow n0 5 1 v n xs) (hg : w.grownBy w' none) : w'.ownsRow n0 5 1 v n xs := own_same h fun k hk => hg.block k (own_at h hk).2.1 (by simp)
/-- One byte of a row of one's own is stored. -/
theorem own_put {n0 n c k : Nat} {w0 w : World} {a : Option Addr} {xs : List Value} (h : w.ownsRow n0 5 1 (.slice a n c) n xs) (hn : w0.heap.size = n0) (hb : Below w0.heap.size w0 w) (hk : k < n) (v : Value) :
    ∃ g u, a = some ⟨g, 0, none⟩ ∧ w.cell? ⟨g, k, none⟩ = some u ∧ w.frozen? ⟨g, k, none⟩ = false ∧ (w.setCell ⟨g, k, none⟩ v).ownsRow n0 5 1 (.slice a n c) n (xs.set k v) ∧ Below w0.heap.size w0 (w.setCell ⟨g, k, none⟩ v) := by
  obtain ⟨g, cap, e⟩ := own_form h (by omega)
  cases e
  have hlen : xs.length = n * 1 := h.1
  have h1 := h.cellAt k (by omega)
  rw [List.getElem?_eq_getElem (by omega)] at h1
  obtain ⟨h2, h3⟩ := World.ownsRow.stored h k v
  exact ⟨g, _, rfl, h1, h.frozenAt k, h2, gr_below hb h3 (fun m hm => by cases hm; rw [hn]; exact (own_at h rfl).1)⟩
set_option maxRecDepth 100000 in
set_option maxHeartbeats 1000000 in
theorem frameLines_in {W : World} {a : Option Addr} {len cap : Nat} {u : List UInt8} (hu : Bu W a len cap u) (hl : len ≤ 5000) (n : Int) (hn : -9223372036854775808 ≤ n ∧ n < 9223372036854775808) :
    Calls Try.prog 3 #[.slice a len cap, .int .i64 n] W fun e W' => e = .returned (.bool true) ∧ Below W.heap.size W W' := by
  have hli : (len : Int) ≤ 5000 := by omega
  have HU := hide (fun (w : World) (h : Below W.heap.size W w) => hu.on h)
  have HN := hide hu.n
  have HL := hide (fun (w : World) (a2 : Option Addr) (c2 : Nat) (h : Bu w a2 len c2 u) => line_any h)
  have HR := hide (fun (w : World) (a2 : Option Addr) (c2 : Nat) (h : Bu w a2 len c2 u) => rline_any h (by omega))
  have HB := hide (fun (w : World) (a2 : Option Addr) (c2 : Nat) (h : Bu w a2 len c2 u) => body_any h n hn)
  have HQ := hide (fun (w : World) (a2 : Option Addr) (c2 : Nat) (h : Bu w a2 len c2 u) => rbody_any h n)
  have hx : (bodyN u n).1.length ≤ 1000 := by
    unfold bodyN
    split
    · simp
    · split
      · simp
      · split
        · simp; omega
        · simp
  generalize lineN u = x at *
  obtain ⟨x1, x2, x3⟩ := x
  generalize bodyN u n = y at *
  obtain ⟨y1, y2, y3⟩ := y
  obtain ⟨m, hm⟩ : ∃ m, y1.length = m := ⟨_, rfl⟩
  simp only [lineV, BodyEnd] at *
  simp only [hm] at hx HB HQ
  have HM := hide hm
  clear hu hn hm
  have hmi : (m : Int) ≤ 1000 := by omega
  go_enter Try.func3, Try.ntmps3
  go_wp2_with (first
    | (go_at_call 9; refine (awake_any _).mono ?_; rintro e w1 ⟨rfl, g1⟩; have B1 := hide (below_gr g1); clear g1)
    | (at_builtin; refine wpList_append_bs rfl _ _ rfl w1.heap.size _ 0 [] rfl (World.ownsRow_nil _ _ _ _) _ len cap u rfl HN.out (HU.out _ B1.out).b (by omega) (Nat.le_refl _) ?_; intro v2 w2 o2 g2 _; rw [Nat.zero_add] at o2; obtain ⟨a2, c2, rfl⟩ := own_shape o2; have O2 : Hid (Bu w2 a2 len c2 u) := (by show _; have q : ValAt w1.heap.size w2 a2 c2 u := (by unfold ValAt; rw [HN.out]; exact o2); have := q.bu; rw [HN.out] at this; exact this); have B2 := hide (Bt B1.out (below_gr g2)); clear o2 g2 B1)
    | (go_at_call 10; refine (HL.out _ _ _ O2.out).mono ?_; rintro e w3 ⟨rfl, g3⟩; have O3 := hide (O2.out.on (below_gr g3)); have B3 := hide (Bt B2.out (below_gr g3)); clear B2 O2 g3)
    | (go_at_call 11; refine (HR.out _ _ _ (HU.out _ B3.out)).mono ?_; rintro e w4 ⟨rfl, rfl⟩)
    | (go_at_call 12; refine (HB.out _ _ _ O3.out).mono ?_; rintro e w4 ⟨a4, c4, rfl, v4, g4⟩; have B4 := hide (Bt B3.out (below_gr g4)); replace v4 := hide v4; replace g4 := hide g4)
    | (go_at_call 13; refine (HQ.out _ _ _ (HU.out _ B4.out)).mono ?_; rintro e w5 ⟨a5, c5, rfl, v5, g5⟩; have B5 := hide (gr_trans g4.out g5); have q5 : ValAt w3.heap.size w5 a4 c4 y1 := own_grow v4.out g5; have k1 := convU q5.bu; have k2 := convU (ValAt.bu v5); rw [HM.out] at k1 k2; have Q5 : Hid (w5.ownsRow w3.heap.size 5 1 (.slice a4 m c4) m (byU y1)) := (by show _; unfold ValAt at q5; rw [HM.out] at q5; exact q5); clear q5 v5 g5 v4 g4 B4))
  go_loopw [20] (fun i wr => ∃ k : Nat, k ≤ m ∧ i = .int .i64 k ∧ Hid (∃ xs, wr.ownsRow w3.heap.size 5 1 (.slice a4 m c4) m xs) ∧ Hid (Below w3.heap.size w3 wr)) (fun i _ => m - (intOf i).toNat)
  case atStart => exact ⟨0, by omega, rfl, ⟨_, Q5.out⟩, below_gr B5.out⟩
  case round =>
    obtain ⟨k, hk, rfl, HX, HZ⟩ := hrel
    clear k1 k2
    by_cases hlt : k < m
    · obtain ⟨xs, hxs⟩ := HX.out
      obtain ⟨g, u0, rfl, p1, p2, p3, p4⟩ := own_put hxs rfl HZ.out hlt (.int .u8 7)
      have P3 := hide p3
      have P4 := hide p4
      have hki : (k : Int) < (m : Int) := by omega
      have e1 : wrap64 ((k : Int) + 1) = (k : Int) + 1 := by unfold wrap64; omega
      clear hxs p3 p4 HX HZ
      go_wp2
      go_roundw
      case rel => exact ⟨k + 1, by omega, by go_num, ⟨_, P3.out⟩, P4.out⟩
      case measure => first | (simp [intOf]; done) | (simp [intOf]; omega)
    · have k3 := convU (O3.out.on HZ.out)
      have k4 := convU (HU.out _ (Bt B3.out HZ.out))
      go_wp2
      go_ret
      exact ⟨by first | rfl | (simp; done), Bt B3.out HZ.out⟩
set_option maxRecDepth 100000 in
set_option maxHeartbeats 1000000 in
theorem frameLines_walk (W : World) (a0 : Option Addr) (len0 cap0 : Nat) (z0 : List Int) (w0 : IsRow .u8 W a0 len0 cap0 z0) (a1 : Int) (w1 : (Lit.int .i64 a1).wf = true) :
    Calls Try.prog 3 #[.slice a0 len0 cap0, .int .i64 a1] W fun e W' => e = .returned (.bool true) ∧ Below W.heap.size W W' := by
  obtain ⟨u, hu⟩ := Bu.of w0
  by_cases hl : len0 ≤ 5000
  · exact frameLines_in hu hl a1 (i64_wf w1)
  · have hli : (5000 : Int) < (len0 : Int) := by omega
    go_enter Try.func3, Try.ntmps3
    go_wp2_with (go_at_call 9; refine (awake_any _).mono ?_; rintro e w1 ⟨rfl, g1⟩)
    go_ret
    exact ⟨rfl, below_gr g1⟩
end Go.Proofs.Ytggaifkjmlhmlaa
