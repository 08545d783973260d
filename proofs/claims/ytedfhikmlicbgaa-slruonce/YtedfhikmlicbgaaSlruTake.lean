/- A node is taken out of its row, and moved to another one. Conditions: none. -/
import Derived.Test.YtedfhikmlicbgaaSlruRow
import Derived.Deep.RegionLaw
namespace Go.Proofs.Ytedfhikmlicbgaa
open Go.RowKit Go.Maps

def takeH (hc : Array Value) (off : Nat) (A B : List Nk) : Array Value :=
  let h1 := if A = [] then hc.setIfInBounds off (firstP B) else hc
  let h2 := if B = [] then h1.setIfInBounds (off + 1) (lastP A) else h1
  h2.setIfInBounds (off + 2) (.int .i64 (A.length + B.length : Nat))
theorem first_nil : firstP [] = .pointer none := rfl
theorem first_cons (l : List Nk) (a : Nk) : firstP (a :: l) = .pointer (some ⟨a.1, 0, none⟩) := rfl
set_option maxRecDepth 100000 in
set_option maxHeartbeats 4000000 in
theorem takeOut_any {F : Nat → Prop} {w0 w : World} {b off x : Nat} {hc : Array Value} {I : List Nat} {nd : Nat → Array Value} {R : Part} {A B : List Nk} {s : ByteArray} (H : RowAt F w0 w b hc I nd R)
    (hr0 : A = [] → ∃ v, hc[off]? = some v) (hr1 : B = [] → ∃ v, hc[off + 1]? = some v) (hr2 : hc[off + 2]? = some (.int .i64 (A.length + B.length + 1 : Nat))) (hl : A.length + B.length < maxLen) (hx : x ∈ I) (hi : ∀ y ∈ A ++ B, y.1 ∈ I) (hne : ∀ y ∈ A ++ B, y.1 ≠ x) (hab : ∀ a ∈ A, ∀ c ∈ B, a.1 ≠ c.1)
    (hv : nd x = nodeV b off s (lastP A) (firstP B)) (h4 : ∀ y ∈ A ++ B, (nd y.1).size = 4) :
    Calls Try.prog 29 #[.pointer (some ⟨b, off, none⟩), .pointer (some ⟨x, 0, none⟩)] w fun e w' => e = .returned (.tuple #[]) ∧ RowAt F w0 w' b (takeH hc off A B) I (takeN nd A B) R := by
  obtain ⟨m, hm⟩ : ∃ m, A.length + B.length = m := ⟨_, rfl⟩
  rw [hm] at hr2 hl
  have e1 : wrap64 (m : Int) = (m : Int) := wrap_id (by unfold maxLen at hl; omega)
  have n2 := H.node hx (i := 2) (v := lastP A) (by rw [hv]; rfl)
  have n3 := H.node hx (i := 3) (v := firstP B) (by rw [hv]; rfl)
  rcases List.eq_nil_or_concat A with rfl | ⟨A0, a, rfl⟩
  · obtain ⟨v0, hr0⟩ := hr0 rfl
    rw [last_nil] at hv n2
    have k0 := H.head hr0
    have f0 := H.headF off
    cases B with
    | nil =>
      obtain ⟨v1, hr1⟩ := hr1 rfl
      rw [first_nil] at hv n3
      have H1 := H.setH off (.pointer none)
      have m3 := H1.node hx (i := 3) (v := .pointer none) (by rw [hv]; rfl)
      have m2 := H1.node hx (i := 2) (v := .pointer none) (by rw [hv]; rfl)
      have k1 := H1.head (set_get hr1 (by omega))
      have f1 := H1.headF (off + 1)
      have H2 := H1.setH (off + 1) (.pointer none)
      have k2 := H2.head (set_get (set_get hr2 (by omega)) (by omega))
      have f2 := H2.headF (off + 2)
      have H3 := hide (H2.setH (off + 2) (.int .i64 (m : Nat)))
      clear H H1 H2
      go_enter Try.func29, Try.ntmps29
      go_wp2
      go_end0
      refine ⟨rfl, ?_⟩
      unfold takeH takeN
      rw [hm]
      exact H3.out
    | cons c B =>
      rw [first_cons] at hv n3
      have hc' : c.1 ∈ I := hi c (by simp)
      have hcx : c.1 ≠ x := hne c (by simp)
      obtain ⟨c1, ec⟩ : ∃ c1, c.1 = c1 := ⟨_, rfl⟩
      have hs4 : (nd c1).size = 4 := by rw [← ec]; exact h4 c (by simp)
      rw [ec] at hc' hcx hv n3
      obtain ⟨vc, hvc⟩ : ∃ v, (nd c1)[2]? = some v := ⟨_, Array.getElem?_eq_getElem (by omega)⟩
      have H1 := H.setH off (.pointer (some ⟨c1, 0, none⟩))
      have m3 := H1.node hx (i := 3) (v := .pointer (some ⟨c1, 0, none⟩)) (by rw [hv]; rfl)
      have H1d := H1.drew
      have d3 := RowAt.node H1d hx (i := 3) (v := .pointer (some ⟨c1, 0, none⟩)) (by rw [hv]; rfl)
      have d2 := RowAt.node H1d hx (i := 2) (v := .pointer none) (by rw [hv]; rfl)
      have k1 := RowAt.node H1d hc' (i := 2) (v := vc) hvc
      have f1 := RowAt.nodeF H1d hc' 2
      have H2 := (H1.setN hc' 2 (.pointer none)).drew
      have q3 := RowAt.node H2 hx (i := 3) (v := .pointer (some ⟨c1, 0, none⟩)) (by rw [updN_other hcx.symm, hv]; rfl)
      have q2 := RowAt.node H2 hx (i := 2) (v := .pointer none) (by rw [updN_other hcx.symm, hv]; rfl)
      have k2 := RowAt.head H2 (set_get hr2 (by omega))
      have f2 := RowAt.headF H2 (off + 2)
      have H3 := hide (((H1.setN hc' 2 (.pointer none)).setH (off + 2) (.int .i64 (m : Nat))).drew)
      clear H H1 H1d H2
      go_enter Try.func29, Try.ntmps29
      go_upto_region 5 with fail
      go_region_held (fun w' => w'.cell? ⟨x, 3, none⟩ = some (.pointer (some ⟨c1, 0, none⟩)) ∧ w'.cell? ⟨x, 2, none⟩ = some (.pointer none)) (first | exact ⟨d3, d2⟩ | exact ⟨q3, q2⟩) (fail)
      go_wp2
      go_end0
      refine ⟨rfl, ?_⟩
      unfold takeH takeN
      rw [hm]
      simp only [List.head?_cons, List.getLast?_nil, last_nil, first_cons, ec]
      exact H3.out
  · rw [List.concat_eq_append] at *
    rw [last_snoc] at hv n2
    have ha' : a.1 ∈ I := hi a (by simp)
    have hax : a.1 ≠ x := hne a (by simp)
    have hab := hab a (by simp)
    obtain ⟨a1, ea⟩ : ∃ a1, a.1 = a1 := ⟨_, rfl⟩
    have as4 : (nd a1).size = 4 := by rw [← ea]; exact h4 a (by simp)
    rw [ea] at ha' hax hv n2 hab
    obtain ⟨va, hva⟩ : ∃ v, (nd a1)[3]? = some v := ⟨_, Array.getElem?_eq_getElem (by omega)⟩
    have k0 := RowAt.node H.drew ha' hva
    have f0 := RowAt.nodeF H.drew ha' 3
    have b2 := RowAt.node H.drew hx (i := 2) (v := .pointer (some ⟨a1, 0, none⟩)) (by rw [hv]; rfl)
    have b3 := RowAt.node H.drew hx (i := 3) (v := firstP B) (by rw [hv]; rfl)
    cases B with
    | nil =>
      obtain ⟨v1, hr1⟩ := hr1 rfl
      rw [first_nil] at hv n3 b3
      have H1 := H.setN ha' 3 (.pointer none)
      have H1d := H1.drew
      have p2 := RowAt.node H1d hx (i := 2) (v := .pointer (some ⟨a1, 0, none⟩)) (by rw [updN_other hax.symm, hv]; rfl)
      have p3 := RowAt.node H1d hx (i := 3) (v := .pointer none) (by rw [updN_other hax.symm, hv]; rfl)
      have k1 := RowAt.head H1d hr1
      have f1 := RowAt.headF H1d (off + 1)
      have H2 := (H1.setH (off + 1) (.pointer (some ⟨a1, 0, none⟩))).drew
      have k2 := RowAt.head H2 (set_get hr2 (by omega))
      have f2 := RowAt.headF H2 (off + 2)
      have H3 := hide (((H1.setH (off + 1) (.pointer (some ⟨a1, 0, none⟩))).setH (off + 2) (.int .i64 (m : Nat))).drew)
      clear H H1 H1d H2
      go_enter Try.func29, Try.ntmps29
      go_upto_region 2 with fail
      go_region_held (fun w' => w'.cell? ⟨x, 3, none⟩ = some (.pointer none) ∧ w'.cell? ⟨x, 2, none⟩ = some (.pointer (some ⟨a1, 0, none⟩))) (first | exact ⟨b3, b2⟩ | exact ⟨p3, p2⟩) (fail)
      go_wp2
      go_end0
      refine ⟨rfl, ?_⟩
      unfold takeH takeN
      rw [hm]
      simp only [getLast_snoc, List.head?_nil, last_snoc, first_nil, ea]
      first | rw [if_pos rfl] | rw [if_pos trivial]
      rw [if_neg (by simp)]
      exact H3.out
    | cons c B =>
      rw [first_cons] at hv n3 b3
      have hc' : c.1 ∈ I := hi c (by simp)
      have hcx : c.1 ≠ x := hne c (by simp)
      have hac := hab c (by simp)
      obtain ⟨c1, ec⟩ : ∃ c1, c.1 = c1 := ⟨_, rfl⟩
      have hs4 : (nd c1).size = 4 := by rw [← ec]; exact h4 c (by simp)
      rw [ec] at hc' hcx hv n3 b3 hac
      obtain ⟨vc, hvc⟩ : ∃ v, (nd c1)[2]? = some v := ⟨_, Array.getElem?_eq_getElem (by omega)⟩
      have H1 := H.setN ha' 3 (.pointer (some ⟨c1, 0, none⟩))
      have H1d := H1.drew
      have p2 := RowAt.node H1d hx (i := 2) (v := .pointer (some ⟨a1, 0, none⟩)) (by rw [updN_other hax.symm, hv]; rfl)
      have p3 := RowAt.node H1d hx (i := 3) (v := .pointer (some ⟨c1, 0, none⟩)) (by rw [updN_other hax.symm, hv]; rfl)
      have H1e := H1d.drew
      have s2 := RowAt.node H1e hx (i := 2) (v := .pointer (some ⟨a1, 0, none⟩)) (by rw [updN_other hax.symm, hv]; rfl)
      have s3 := RowAt.node H1e hx (i := 3) (v := .pointer (some ⟨c1, 0, none⟩)) (by rw [updN_other hax.symm, hv]; rfl)
      have k1 := RowAt.node H1e hc' (i := 2) (v := vc) (by rw [updN_other hac.symm]; exact hvc)
      have f1 := RowAt.nodeF H1e hc' 2
      have H2 := (H1.setN hc' 2 (.pointer (some ⟨a1, 0, none⟩)))
      have H2e := H2.drew.drew
      have t2 := RowAt.node H2e hx (i := 2) (v := .pointer (some ⟨a1, 0, none⟩)) (by rw [updN_other hcx.symm, updN_other hax.symm, hv]; rfl)
      have t3 := RowAt.node H2e hx (i := 3) (v := .pointer (some ⟨c1, 0, none⟩)) (by rw [updN_other hcx.symm, updN_other hax.symm, hv]; rfl)
      have k2 := RowAt.head H2e hr2
      have f2 := RowAt.headF H2e (off + 2)
      have H3 := hide (((H2.setH (off + 2) (.int .i64 (m : Nat))).drew).drew)
      clear H H1 H1d H2 H1e H2e
      go_enter Try.func29, Try.ntmps29
      go_upto_region 2 with fail
      go_region_held (fun w' => w'.cell? ⟨x, 3, none⟩ = some (.pointer (some ⟨c1, 0, none⟩)) ∧ w'.cell? ⟨x, 2, none⟩ = some (.pointer (some ⟨a1, 0, none⟩))) (first | exact ⟨b3, b2⟩ | exact ⟨p3, p2⟩) (fail)
      go_upto_region 5 with fail
      go_region_held (fun w' => w'.cell? ⟨x, 3, none⟩ = some (.pointer (some ⟨c1, 0, none⟩)) ∧ w'.cell? ⟨x, 2, none⟩ = some (.pointer (some ⟨a1, 0, none⟩))) (first | exact ⟨s3, s2⟩ | exact ⟨t3, t2⟩) (fail)
      go_wp2
      go_end0
      refine ⟨rfl, ?_⟩
      unfold takeH takeN
      rw [hm]
      simp only [getLast_snoc, List.head?_cons, last_snoc, first_cons, ea, ec]
      rw [if_neg (by simp), if_neg (by simp)]
      exact H3.out
end Go.Proofs.Ytedfhikmlicbgaa
