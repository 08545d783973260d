/- What the statements of layer 6 need of package tiny: its contracts, over a word 'Jd' that says what a judge in memory has seen. Nothing of the program is walked here but the chapter's example. Conditions: the contracts. -/
import Derived.Test.YtpjmhiokhoplmaaOps3
import Derived.Test.YtpjmhiokhoplmaaGrow
import Derived.Test.YtpjmhiokhoplmaaTinyM
namespace Go.Proofs.Ytpjmhiokhoplmaa
open Go.RowKit

/-- The contracts of package tiny: a judge at block b owns the blocks bs. -/
structure TinyLib (Jd : World → Nat → List Nat → Nat → Js → Prop) : Prop where
  lt : ∀ {w b bs sd j}, Jd w b bs sd j → ∀ k ∈ bs, k < w.heap.size
  good : ∀ {w b bs sd j}, Jd w b bs sd j → GoodJ j ∧ sd < 18446744073709551616
  keep : ∀ {w w' b bs sd j}, Jd w b bs sd j → (∀ k ∈ bs, w'.heap[k]? = w.heap[k]?) → Jd w' b bs sd j
  new : ∀ (sd : Nat), sd < 18446744073709551616 → ∀ w : World, Calls Try.prog 10 #[.int .u64 sd] w fun e w' => ∃ b bs, e = .returned (.pointer (some ⟨b, 0, none⟩)) ∧ (∀ k ∈ bs, w.heap.size ≤ k) ∧ Jd w' b bs sd freshJ ∧ w.grownBy w' none
  touch : ∀ {w b bs sd j}, Jd w b bs sd j → ∀ s : ByteArray, s.size ≤ 300 → Calls Try.prog 13 #[.pointer (some ⟨b, 0, none⟩), .string s] w fun e w' => (∃ v, e = .returned v) ∧ Jd w' b bs sd (touchJ sd j s.data.toList) ∧ Gr (· ∈ bs) w w'
  worth : ∀ {w b bs sd j}, Jd w b bs sd j → ∀ s : ByteArray, s.size ≤ 300 → Calls Try.prog 15 #[.pointer (some ⟨b, 0, none⟩), .string s] w fun e w' => e = .returned (.int .i64 (worthJ sd j s.data.toList)) ∧ Jd w' b bs sd j ∧ w.grownBy w' none
  admits : ∀ {w b bs sd j}, Jd w b bs sd j → ∀ s t : ByteArray, s.size ≤ 300 → t.size ≤ 300 → Calls Try.prog 17 #[.pointer (some ⟨b, 0, none⟩), .string s, .string t] w fun e w' => e = .returned (.bool (decide (worthJ sd j t.data.toList < worthJ sd j s.data.toList))) ∧ Jd w' b bs sd j ∧ w.grownBy w' none
  copy : ∀ {w b bs sd j}, Jd w b bs sd j → Calls Try.prog 12 #[.pointer (some ⟨b, 0, none⟩)] w fun e w' => ∃ b' bs', e = .returned (.pointer (some ⟨b', 0, none⟩)) ∧ (∀ k ∈ bs', w.heap.size ≤ k) ∧ Jd w' b' bs' sd j ∧ w.grownBy w' none

variable {Jd : World → Nat → List Nat → Nat → Js → Prop}
theorem TinyLib.kept (L : TinyLib Jd) {w w' : World} {b sd : Nat} {bs : List Nat} {j : Js} (h : Jd w b bs sd j) (hg : w.grownBy w' none) : Jd w' b bs sd j := L.keep h fun k hk => hg.block k (L.lt h k hk) (by simp)
/-- What another judge, made later, writes is none of its own. -/
theorem TinyLib.apart (L : TinyLib Jd) {w w' : World} {b sd : Nat} {bs cs : List Nat} {j : Js} (h : Jd w b bs sd j) (hg : Gr (· ∈ cs) w w') (hc : ∀ k ∈ bs, ¬ k ∈ cs) : Jd w' b bs sd j := L.keep h fun k hk => hg.block k (L.lt h k hk) (hc k hk)
theorem gr_belowL {w a b : World} {bs : List Nat} (hB : Below w.heap.size w a) (h : Gr (· ∈ bs) a b) (hr : ∀ k ∈ bs, w.heap.size ≤ k) : Below w.heap.size w b := Gr.below hB h hr
theorem touch_a (L : TinyLib Jd) {w : World} {b : Nat} {bs : List Nat} {j : Js} (h : Jd w b bs 1 j) : Calls Try.prog 13 #[.pointer (some ⟨b, 0, none⟩), .string ⟨#[97]⟩] w fun e w' => (∃ v, e = .returned v) ∧ Jd w' b bs 1 (touchJ 1 j [97]) ∧ Gr (· ∈ bs) w w' :=
  L.touch h ⟨#[97]⟩ (by decide)
theorem worth_a (L : TinyLib Jd) {w : World} {b : Nat} {bs : List Nat} {j : Js} (h : Jd w b bs 1 j) (n : Nat) (hn : worthJ 1 j [97] = n) : Calls Try.prog 15 #[.pointer (some ⟨b, 0, none⟩), .string ⟨#[97]⟩] w fun e w' => e = .returned (.int .i64 n) ∧ Jd w' b bs 1 j ∧ w.grownBy w' none :=
  (L.worth h ⟨#[97]⟩ (by decide)).mono fun _ _ ⟨h1, h2, h3⟩ => ⟨h1.trans (by rw [show (⟨#[97]⟩ : ByteArray).data.toList = [97] from rfl, hn]), h2, h3⟩
set_option maxHeartbeats 1000000 in
theorem awake_any (L : TinyLib Jd) (w : World) : Calls Try.prog 8 #[] w fun e w' => e = .returned (.bool true) ∧ Below w.heap.size w w' := by
  have hB : Below w.heap.size w w := Below.refl _ _
  have H1 := hide (worth_two 1 [97]).1
  have H2 := hide (worth_two 1 [97]).2
  go_enter Try.func8, Try.ntmps8
  go_wp2_with (first
    | (go_at_call 10; refine (L.new 1 (by decide) _).mono ?_; rintro e w1 ⟨b, bs, rfl, hb, hF, hg⟩; replace hB := gr_below hB hg (fun _ e => by cases e); clear hg)
    | (go_at_call 13; refine (touch_a L hF).mono ?_; rintro e w1 ⟨⟨v, rfl⟩, hF2, hg⟩; replace hB := gr_belowL hB hg hb; clear hg hF; have hF := hF2; clear hF2)
    | (go_at_call 15; refine (worth_a L hF 1 H1.out).mono ?_; clear H1; rintro e w1 ⟨rfl, hF2, hg⟩; replace hB := gr_below hB hg (fun _ e => by cases e); clear hg hF; have hF := hF2; clear hF2)
    | (go_at_call 15; refine (worth_a L hF 2 H2.out).mono ?_; rintro e w1 ⟨rfl, hF2, hg⟩; replace hB := gr_below hB hg (fun _ e => by cases e); clear hg hF; have hF := hF2; clear hF2))
  go_ret
  exact ⟨rfl, hB⟩
end Go.Proofs.Ytpjmhiokhoplmaa
