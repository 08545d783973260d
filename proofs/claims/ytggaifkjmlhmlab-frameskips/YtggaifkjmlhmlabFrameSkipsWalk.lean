/- FrameSkips returns true for every bytes, every number and either bool, and writes nothing that was there. Conditions: none. -/
import Derived.Test.YtggaifkjmlhmlabFrameAw
import Derived.Test.YtggaifkjmlhmlabFramePiecesM
namespace Go.Proofs.Ytggaifkjmlhmlab
open Go.RowKit

theorem bu_cell {w : World} {a : Option Addr} {len cap : Nat} {l : List UInt8} (h : Bu w a len cap l) (h1 : 1 ≤ len) : ∃ b off, a = some ⟨b, off, none⟩ ∧ ∀ i, ∀ hi : i < l.length, w.cell? ⟨b, off + i, none⟩ = some (.int .u8 (l[i].toNat : Int)) := by
  rcases h.b with ⟨h4, _, _⟩ | ⟨b, off, r⟩
  · omega
  · refine ⟨b, off, r.at_, fun i hi => ?_⟩
    rw [r.cell i (by rw [← h.n]; exact hi), getD_ints l i hi]
/-- Where the line feed lies. -/
theorem feed_at {l : List UInt8} {s : Nat} (hf : ¬ feedI (l.drop s) < 0) : ∃ k, ∃ h : k < l.length, s ≤ k ∧ l[k] = 10 ∧ (s : Int) + feedI (l.drop s) = k := by
  rcases feeds (l.drop s) with h | ⟨p, r, he, hp⟩
  · rw [feedI_no h] at hf; exact absurd (by decide) hf
  · rw [he, feedI_of hp]
    have hlen := congrArg List.length he
    rw [List.length_drop, List.length_append, List.length_cons] at hlen
    refine ⟨s + p.length, by omega, by omega, ?_, by omega⟩
    have h1 : (l.drop s)[p.length]? = some 10 := by rw [he]; simp
    rw [List.getElem?_drop] at h1
    exact (List.getElem?_eq_some_iff.1 h1).2
set_option maxRecDepth 100000 in
set_option maxHeartbeats 1000000 in
theorem frameSkips_in {W : World} {a : Option Addr} {len cap : Nat} {u : List UInt8} (hu : Bu W a len cap u) (hl : len ≤ 5000) (s : Nat) (hs : s ≤ 10000) (b : Bool) :
    Calls Try.prog 3 #[.slice a len cap, .int .i64 (s : Int), .bool b] W fun e W' => e = .returned (.bool true) ∧ Below W.heap.size W W' := by
  have hn := hu.n
  have hli : (len : Int) ≤ 5000 := by omega
  have hsi : (s : Int) ≤ 10000 := by omega
  have hsn : ¬ (s : Int) < 0 := by omega
  have H0 := hide (fun (w : World) (h : Below W.heap.size W w) => pass_any (hu.on h) 0 (by decide) false)
  have H1 := hide (fun (w : World) (h : Below W.heap.size W w) => pass_any (hu.on h) (s : Int) (by omega) b)
  rw [pass_plain (Int.le_refl 0) (by omega)] at H0
  by_cases h1 : (len : Int) < (s : Int)
  · rw [pass_long (by rw [hn]; exact h1), hn] at H1
    have e1 : wrap64 ((s : Int) - (len : Int) + (len : Int)) = (s : Int) := by unfold wrap64; omega
    have e2 : 0 < (s : Int) - (len : Int) := by omega
    have e3 : (((s : Int) - (len : Int)) == 0) = false := by simp; omega
    generalize (s : Int) - (len : Int) = d at *
    simp only [passV] at *
    clear hn hu hl hs
    go_enter Try.func3, Try.ntmps3
    go_wp2_with (first
      | (go_at_call 4; refine (awake_any _).mono ?_; rintro e w1 ⟨rfl, g1⟩; have B1 := hide (below_gr g1); clear g1)
      | (have t := H0; clear t; go_at_call 5; refine (H0.out _ B1.out).mono ?_; rintro e w2 ⟨rfl, rfl⟩; clear H0)
      | (have t := H1; clear t; go_at_call 5; refine (H1.out _ B1.out).mono ?_; rintro e w2 ⟨rfl, rfl⟩; clear H1))
    all_goals go_ret
    all_goals exact ⟨by first | rfl | (simp; done), B1.out⟩
  · have h1' : (s : Int) ≤ (u.length : Int) := by omega
    have h0' : 0 ≤ (s : Int) := by omega
    cases b with
    | false =>
      rw [pass_plain h0' h1'] at H1
      simp only [passV] at *
      clear hn hu hl hs h1 h1' h0'
      go_enter Try.func3, Try.ntmps3
      go_wp2_with (first
        | (go_at_call 4; refine (awake_any _).mono ?_; rintro e w1 ⟨rfl, g1⟩; have B1 := hide (below_gr g1); clear g1)
        | (have t := H0; clear t; go_at_call 5; refine (H0.out _ B1.out).mono ?_; rintro e w2 ⟨rfl, rfl⟩; clear H0)
        | (have t := H1; clear t; go_at_call 5; refine (H1.out _ B1.out).mono ?_; rintro e w2 ⟨rfl, rfl⟩; clear H1))
      all_goals go_ret
      all_goals exact ⟨by first | rfl | (simp; done), B1.out⟩
    | true =>
      by_cases h2 : feedI (u.drop (s : Int).toNat) < 0
      · rw [pass_none h0' h1' h2, hn] at H1
        simp only [passV] at *
        clear hn hu hl hs h1 h1' h0' h2
        go_enter Try.func3, Try.ntmps3
        go_wp2_with (first
          | (go_at_call 4; refine (awake_any _).mono ?_; rintro e w1 ⟨rfl, g1⟩; have B1 := hide (below_gr g1); clear g1)
          | (have t := H0; clear t; go_at_call 5; refine (H0.out _ B1.out).mono ?_; rintro e w2 ⟨rfl, rfl⟩; clear H0)
          | (have t := H1; clear t; go_at_call 5; refine (H1.out _ B1.out).mono ?_; rintro e w2 ⟨rfl, rfl⟩; clear H1))
        all_goals go_ret
        all_goals exact ⟨by first | rfl | (simp; done), B1.out⟩
      · rw [pass_some h0' h1' h2] at H1
        rw [Int.toNat_natCast] at h2 H1
        obtain ⟨k, hk, hsk, hu10, he⟩ := feed_at h2
        rw [he] at H1
        obtain ⟨c, off, rfl, hcell⟩ := bu_cell hu (by omega)
        have hck := hcell k hk
        rw [hu10] at hck
        have HB := hide (fun (w : World) (h : Below W.heap.size W w) => (bu_cell (hu.on h) (by omega)))
        have hC := hide (fun (w : World) (h : Below W.heap.size W w) => show w.cell? ⟨c, off + k, none⟩ = some (.int .u8 10) from by
          obtain ⟨c', off', e, hc'⟩ := HB.out w h
          obtain ⟨rfl, rfl⟩ : c' = c ∧ off' = off := by cases e; exact ⟨rfl, rfl⟩
          have := hc' k hk
          rw [hu10] at this
          exact this)
        have e1 : wrap64 ((k : Int) + 1 - 1) = (k : Int) := by unfold wrap64; omega
        have e2 : (s : Int) < (k : Int) + 1 := by omega
        have hkl : (k : Int) < (len : Int) := by omega
        have hk0 : ¬ (k : Int) < 0 := by omega
        have e3 : ((k : Int) + 1) - 1 = (k : Int) := by omega
        simp only [passV] at *
        clear hn hu hl hs h1 h1' h0' h2 hcell HB hck he hu10
        go_enter Try.func3, Try.ntmps3
        go_wp2_with (first
          | (go_at_call 4; refine (awake_any _).mono ?_; rintro e w1 ⟨rfl, g1⟩; have B1 := hide (below_gr g1); clear g1)
          | (have t := H0; clear t; go_at_call 5; refine (H0.out _ B1.out).mono ?_; rintro e w2 ⟨rfl, rfl⟩; clear H0)
          | (have t := H1; clear t; go_at_call 5; refine (H1.out _ B1.out).mono ?_; rintro e w2 ⟨rfl, rfl⟩; clear H1; have hck := hC.out _ B1.out; clear hC))
        all_goals go_ret
        all_goals exact ⟨by first | rfl | (simp; done), B1.out⟩
set_option maxRecDepth 100000 in
set_option maxHeartbeats 1000000 in
theorem frameSkips_walk (W : World) (a0 : Option Addr) (len0 cap0 : Nat) (z0 : List Int) (w0 : IsRow .u8 W a0 len0 cap0 z0) (a1 : Int) (_w1 : (Lit.int .i64 a1).wf = true) (a2 : Bool) :
    Calls Try.prog 3 #[.slice a0 len0 cap0, .int .i64 a1, .bool a2] W fun e W' => e = .returned (.bool true) ∧ Below W.heap.size W W' := by
  obtain ⟨u, hu⟩ := Bu.of w0
  by_cases hl : len0 ≤ 5000
  · by_cases h0 : a1 < 0
    · have hli : (len0 : Int) ≤ 5000 := by omega
      go_enter Try.func3, Try.ntmps3
      go_wp2_with (go_at_call 4; refine (awake_any _).mono ?_; rintro e w1 ⟨rfl, g1⟩)
      go_ret
      exact ⟨rfl, below_gr g1⟩
    · by_cases h1 : (10000 : Int) < a1
      · have hli : (len0 : Int) ≤ 5000 := by omega
        go_enter Try.func3, Try.ntmps3
        go_wp2_with (go_at_call 4; refine (awake_any _).mono ?_; rintro e w1 ⟨rfl, g1⟩)
        go_ret
        exact ⟨rfl, below_gr g1⟩
      · obtain ⟨c, rfl⟩ := Int.eq_ofNat_of_zero_le (show 0 ≤ a1 by omega)
        exact frameSkips_in hu hl c (by omega) a2
  · have hli : (5000 : Int) < (len0 : Int) := by omega
    go_enter Try.func3, Try.ntmps3
    go_wp2_with (go_at_call 4; refine (awake_any _).mono ?_; rintro e w1 ⟨rfl, g1⟩)
    go_ret
    exact ⟨rfl, below_gr g1⟩
end Go.Proofs.Ytggaifkjmlhmlab
