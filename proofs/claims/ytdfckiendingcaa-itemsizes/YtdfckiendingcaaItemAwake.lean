/- What the statements of layer 10 ask first: the chapter's examples, and whether times may be. Conditions: the contracts of package item. -/
import Derived.Test.YtdfckiendingcaaItemRef2
namespace Go.Proofs.Ytdfckiendingcaa
open Go.RowKit Go.Sort

def key1 : ByteArray := ⟨#[107]⟩
def it0 (k : ByteArray) : It := ⟨k, none, 0, 0, 0, 0, 0, 0, 0, false, false, false⟩
theorem i0 : I64 0 := ⟨by decide, by decide⟩
theorem u0 : U64 0 := ⟨by decide, by decide⟩
theorem ok0 (k : ByteArray) (hk : k.size ≤ maxLen) : (it0 k).ok := ⟨hk, Nat.zero_le _, i0, i0, u0⟩
theorem eok (now : Int) (hn : I64 now) : (En.mk now 0 0 0).ok := ⟨hn, u0, i0, u0⟩
set_option maxRecDepth 100000 in
set_option maxHeartbeats 4000000 in
theorem awake_is (L : ItemLib) (w : World) : Calls Try.prog 9 #[] w fun e w' => e = .returned (.bool true) ∧ Gd w w' := by
  have A1 := hide (fun W => L.at_ 5 100 ⟨by decide, by decide⟩ ⟨by decide, by decide⟩ W)
  have A2 := hide (fun W => L.at_ (-1) 100 ⟨by decide, by decide⟩ ⟨by decide, by decide⟩ W)
  have A3 := hide (fun W => L.at_ 3000000 100 ⟨by decide, by decide⟩ ⟨by decide, by decide⟩ W)
  have S1 := hide (fun W => L.size (it0 key1) W (by decide) (by decide))
  have V1 := hide (fun W => L.live (it0 ⟨#[]⟩) ⟨1, 0, 0, 0⟩ (ok0 _ (by decide)) (eok 1 ⟨by decide, by decide⟩) W)
  have T1 := hide (fun W => L.ttl (it0 ⟨#[]⟩) 5 (ok0 _ (by decide)) ⟨by decide, by decide⟩ W)
  have e1 : atN 5 100 = 105 := by decide
  have e2 : atN (-1) 100 = 100 := by decide
  have e3 : atN 3000000 100 = 3000000 := by decide
  rw [e1] at A1
  rw [e2] at A2
  rw [e3] at A3
  have e4 : liveN (it0 ⟨#[]⟩).exp (it0 ⟨#[]⟩).sec (it0 ⟨#[]⟩).seq ⟨1, 0, 0, 0⟩ = true := by decide
  rw [e4] at V1
  have e5 : ttlN (it0 ⟨#[]⟩).exp 5 = -1 := by decide
  rw [e5] at T1
  have e6 : (50 + ((it0 key1).key.size : Nat) + ((it0 key1).vl : Nat) : Int) = 51 := by decide
  rw [e6] at S1
  unfold itC it0 key1 at S1
  unfold itC it0 at V1 T1
  unfold enC at V1
  clear L e1 e2 e3 e4 e5 e6
  go_enter Try.func9, Try.ntmps9
  go_wp2_with (first
    | (have t := A1; clear t; go_at_call 11; refine (A1.out _).mono ?_; rintro e w1 ⟨rfl, g1⟩; clear A1)
    | (have t := A2; clear t; go_at_call 11; refine (A2.out _).mono ?_; rintro e w2 ⟨rfl, g2⟩; clear A2)
    | (have t := A3; clear t; go_at_call 11; refine (A3.out _).mono ?_; rintro e w3 ⟨rfl, g3⟩; clear A3)
    | (go_at_call 15; refine (S1.out _).mono ?_; rintro e w4 ⟨rfl, g4⟩)
    | (go_at_call 17; refine (V1.out _).mono ?_; rintro e w5 ⟨rfl, g5⟩)
    | (go_at_call 13; refine (T1.out _).mono ?_; rintro e w6 ⟨rfl, g6⟩))
  go_ret
  exact ⟨rfl, ((((g1.trans g2).trans g3).trans g4).trans g5).trans g6⟩
set_option maxHeartbeats 2000000 in
theorem times_yes (exp now : Int) (h : T40 exp ∧ N41 now) (w : World) : Calls Try.prog 10 #[.int .i64 exp, .int .i64 now] w fun e w' => e = .returned (.bool true) ∧ w' = w := by
  obtain ⟨⟨h1, h2⟩, h3, h4⟩ := h
  go_enter Try.func10, Try.ntmps10
  go_wp2
  go_ret
  refine ⟨?_, rfl⟩
  first
    | rfl
    | (show Ending.returned (.bool (decide _)) = _; rw [decide_eq_true (by omega)])
set_option maxHeartbeats 2000000 in
theorem times_no (exp now : Int) (h : ¬ (T40 exp ∧ N41 now)) (w : World) : Calls Try.prog 10 #[.int .i64 exp, .int .i64 now] w fun e w' => e = .returned (.bool false) ∧ w' = w := by
  unfold T40 N41 at h
  by_cases h1 : exp ≤ 1099511627776
  · by_cases h2 : -1099511627776 ≤ exp
    · by_cases h3 : now ≤ 2199023255552
      · have h4 : ¬ (-1 ≤ now) := by omega
        clear h
        go_enter Try.func10, Try.ntmps10
        go_wp2
        go_ret
        refine ⟨?_, rfl⟩
        first
          | rfl
          | (show Ending.returned (.bool (decide _)) = _; rw [decide_eq_false (by omega)])
      · clear h
        go_enter Try.func10, Try.ntmps10
        go_wp2
        go_ret
        exact ⟨rfl, rfl⟩
    · clear h
      go_enter Try.func10, Try.ntmps10
      go_wp2
      go_ret
      exact ⟨rfl, rfl⟩
  · clear h
    go_enter Try.func10, Try.ntmps10
    go_wp2
    go_ret
    exact ⟨rfl, rfl⟩
end Go.Proofs.Ytdfckiendingcaa
