/- What the statements of layer 5 need of package sketch: its contracts (SketchCon). Nothing of the program is walked here but the chapter's example. Conditions: the contracts. -/
import Derived.Test.YtjjmnjcgebadoaaOps3
import Derived.Test.YtjjmnjcgebadoaaSketchCon
namespace Go.Proofs.Ytjjmnjcgebadoaa
open Go.RowKit

variable {Sk : World → Nat → Nat → St → Prop}
theorem add_a (L : SketchLib Sk) {w : World} {b : Nat} {st : St} (h : Sk w b 1 st) : Calls Try.prog 13 #[.pointer (some ⟨b, 0, none⟩), .string ⟨#[97]⟩] w fun e w' => (∃ v, e = .returned (.bool v)) ∧ Sk w' b 1 (addK 1 st [97]) ∧ w.grownBy w' (some b) :=
  (L.add h ⟨#[97]⟩ (by decide)).mono fun _ _ ⟨h1, h2, h3⟩ => ⟨⟨_, h1⟩, h2, h3⟩
theorem count_a (L : SketchLib Sk) {w : World} {b : Nat} (h : Sk w b 1 (addK 1 (addK 1 fresh [97]) [97])) : Calls Try.prog 16 #[.pointer (some ⟨b, 0, none⟩), .string ⟨#[97]⟩] w fun e w' => e = .returned (.int .i64 2) ∧ Sk w' b 1 (addK 1 (addK 1 fresh [97]) [97]) ∧ w.grownBy w' none :=
  (L.count h ⟨#[97]⟩ (by decide)).mono fun _ _ ⟨h1, h2, h3⟩ => ⟨h1.trans (by rw [show (⟨#[97]⟩ : ByteArray).data.toList = [97] from rfl, (cnt_two 1 [97]).1]; rfl), h2, h3⟩
theorem age_a (L : SketchLib Sk) {w : World} {b : Nat} (h : Sk w b 1 (addK 1 (addK 1 fresh [97]) [97])) : Calls Try.prog 15 #[.pointer (some ⟨b, 0, none⟩)] w fun e w' => e = .returned (.int .i64 2) ∧ w.grownBy w' none :=
  (L.age h).mono fun _ _ ⟨h1, _, h3⟩ => ⟨h1.trans (by rw [(cnt_two 1 [97]).2.1]; rfl), h3⟩
set_option maxHeartbeats 1000000 in
theorem awake_any (L : SketchLib Sk) (w : World) : Calls Try.prog 8 #[] w fun e w' => e = .returned (.bool true) ∧ Below w.heap.size w w' := by
  have hB : Below w.heap.size w w := Below.refl _ _
  go_enter Try.func8, Try.ntmps8
  go_wp2_with (first
    | (go_at_call 10; refine (L.new 1 (by decide) _).mono ?_; rintro e w1 ⟨b, rfl, hb, hF, hg⟩; replace hB := gr_below hB hg (fun _ e => by cases e); clear hg)
    | (go_at_call 13; refine (add_a L hF).mono ?_; rintro e w1 ⟨⟨v, rfl⟩, hF2, hg⟩; replace hB := gr_below hB hg (fun n e => by cases e; exact hb); clear hg hF; have hF := hF2; clear hF2)
    | (go_at_call 16; refine (count_a L hF).mono ?_; rintro e w1 ⟨rfl, hF2, hg⟩; replace hB := gr_below hB hg (fun _ e => by cases e); clear hg hF; have hF := hF2; clear hF2)
    | (go_at_call 15; refine (age_a L hF).mono ?_; rintro e w1 ⟨rfl, hg⟩; replace hB := gr_below hB hg (fun _ e => by cases e); clear hg))
  go_ret
  exact ⟨rfl, hB⟩
end Go.Proofs.Ytjjmnjcgebadoaa
