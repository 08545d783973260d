/- A node is taken out of its row, and moved to another one. Conditions: none. Both rows of a list together: nodes that are taken out, put, and moved. Conditions: none. -/
import Derived.Test.YthfkcbnabnmnjabGreatDoorG18Joined
import Derived.Deep.RegionLaw
namespace Go.Proofs.YthfkcbnabnmnjabGreatDoor
open Go.RowKit Go.Maps

def takeH (hc : Array Value) (off : Nat) (A B : List Nk) : Array Value :=
  let h1 := if A = [] then hc.setIfInBounds off (firstP B) else hc
  let h2 := if B = [] then h1.setIfInBounds (off + 1) (lastP A) else h1
  h2.setIfInBounds (off + 2) (.int .i64 (A.length + B.length : Nat))
theorem first_nil : firstP [] = .pointer none := rfl
theorem first_cons (l : List Nk) (a : Nk) : firstP (a :: l) = .pointer (some ⟨a.1, 0, none⟩) := rfl
set_option maxRecDepth 100000 in
set_option maxHeartbeats 4000000 in
theorem takeOut_any {F : Nat → Prop} {w0 w : World} {b off x : Nat} {hc : Array Value} {I : List Nat} {nd : Nat → Array Value} {R : Part} {A B : List Nk} {s : ByteArray} (H : RowAt F w0 w b hc I nd R)
    (hr0 : A = [] → ∃ v, hc[off]? = some v) (hr1 : B = [] → ∃ v, hc[off + 1]? = some v) (hr2 : hc[off + 2]? = some (.int .i64 (A.length + B.length + 1 : Nat))) (hl : A.length + B.length < maxLen) (hx : x ∈ I) (hi : ∀ y ∈ A ++ B, y.1 ∈ I) (hne : ∀ y ∈ A ++ B, y.1 ≠ x) (hab : ∀ a ∈ A, ∀ c ∈ B, a.1 ≠ c.1)
    (hv : nd x = nodeV b off s (lastP A) (firstP B)) (h4 : ∀ y ∈ A ++ B, (nd y.1).size = 4) :
    Calls Tryz.prog 70 #[.pointer (some ⟨b, off, none⟩), .pointer (some ⟨x, 0, none⟩)] w fun e w' => e = .returned (.tuple #[]) ∧ RowAt F w0 w' b (takeH hc off A B) I (takeN nd A B) R := by
  obtain ⟨m, hm⟩ : ∃ m, A.length + B.length = m := ⟨_, rfl⟩
  rw [hm] at hr2 hl
  have e1 : wrap64 (m : Int) = (m : Int) := wrapR_id (by unfold maxLen at hl; omega)
  have n2 := H.node hx (i := 2) (v := lastP A) (by rw [hv]; rfl)
  have n3 := H.node hx (i := 3) (v := firstP B) (by rw [hv]; rfl)
  rcases List.eq_nil_or_concat A with rfl | ⟨A0, a, rfl⟩
  · obtain ⟨v0, hr0⟩ := hr0 rfl
    rw [last_nil] at hv n2
    have k0 := H.head hr0
    have f0 := H.headF off
    cases B with
    | nil =>
      obtain ⟨v1, hr1⟩ := hr1 rfl
      rw [first_nil] at hv n3
      have H1 := H.setH off (.pointer none)
      have m3 := H1.node hx (i := 3) (v := .pointer none) (by rw [hv]; rfl)
      have m2 := H1.node hx (i := 2) (v := .pointer none) (by rw [hv]; rfl)
      have k1 := H1.head (set_get hr1 (by omega))
      have f1 := H1.headF (off + 1)
      have H2 := H1.setH (off + 1) (.pointer none)
      have k2 := H2.head (set_get (set_get hr2 (by omega)) (by omega))
      have f2 := H2.headF (off + 2)
      have H3 := hide (H2.setH (off + 2) (.int .i64 (m : Nat)))
      clear H H1 H2
      go_enter Tryz.func70, Tryz.ntmps70
      go_wp2
      go_end0
      refine ⟨rfl, ?_⟩
      unfold takeH takeN
      rw [hm]
      exact H3.out
    | cons c B =>
      rw [first_cons] at hv n3
      have hc' : c.1 ∈ I := hi c (by simp)
      have hcx : c.1 ≠ x := hne c (by simp)
      obtain ⟨c1, ec⟩ : ∃ c1, c.1 = c1 := ⟨_, rfl⟩
      have hs4 : (nd c1).size = 4 := by rw [← ec]; exact h4 c (by simp)
      rw [ec] at hc' hcx hv n3
      obtain ⟨vc, hvc⟩ : ∃ v, (nd c1)[2]? = some v := ⟨_, Array.getElem?_eq_getElem (by omega)⟩
      have H1 := H.setH off (.pointer (some ⟨c1, 0, none⟩))
      have m3 := H1.node hx (i := 3) (v := .pointer (some ⟨c1, 0, none⟩)) (by rw [hv]; rfl)
      have H1d := H1.drew
      have d3 := RowAt.node H1d hx (i := 3) (v := .pointer (some ⟨c1, 0, none⟩)) (by rw [hv]; rfl)
      have d2 := RowAt.node H1d hx (i := 2) (v := .pointer none) (by rw [hv]; rfl)
      have k1 := RowAt.node H1d hc' (i := 2) (v := vc) hvc
      have f1 := RowAt.nodeF H1d hc' 2
      have H2 := (H1.setN hc' 2 (.pointer none)).drew
      have q3 := RowAt.node H2 hx (i := 3) (v := .pointer (some ⟨c1, 0, none⟩)) (by rw [updN_other hcx.symm, hv]; rfl)
      have q2 := RowAt.node H2 hx (i := 2) (v := .pointer none) (by rw [updN_other hcx.symm, hv]; rfl)
      have k2 := RowAt.head H2 (set_get hr2 (by omega))
      have f2 := RowAt.headF H2 (off + 2)
      have H3 := hide (((H1.setN hc' 2 (.pointer none)).setH (off + 2) (.int .i64 (m : Nat))).drew)
      clear H H1 H1d H2
      go_enter Tryz.func70, Tryz.ntmps70
      go_upto_region 5 with fail
      go_region_held (fun w' => w'.cell? ⟨x, 3, none⟩ = some (.pointer (some ⟨c1, 0, none⟩)) ∧ w'.cell? ⟨x, 2, none⟩ = some (.pointer none)) (first | exact ⟨d3, d2⟩ | exact ⟨q3, q2⟩) (fail)
      go_wp2
      go_end0
      refine ⟨rfl, ?_⟩
      unfold takeH takeN
      rw [hm]
      simp only [List.head?_cons, List.getLast?_nil, last_nil, first_cons, ec]
      exact H3.out
  · rw [List.concat_eq_append] at *
    rw [last_snoc] at hv n2
    have ha' : a.1 ∈ I := hi a (by simp)
    have hax : a.1 ≠ x := hne a (by simp)
    have hab := hab a (by simp)
    obtain ⟨a1, ea⟩ : ∃ a1, a.1 = a1 := ⟨_, rfl⟩
    have as4 : (nd a1).size = 4 := by rw [← ea]; exact h4 a (by simp)
    rw [ea] at ha' hax hv n2 hab
    obtain ⟨va, hva⟩ : ∃ v, (nd a1)[3]? = some v := ⟨_, Array.getElem?_eq_getElem (by omega)⟩
    have k0 := RowAt.node H.drew ha' hva
    have f0 := RowAt.nodeF H.drew ha' 3
    have b2 := RowAt.node H.drew hx (i := 2) (v := .pointer (some ⟨a1, 0, none⟩)) (by rw [hv]; rfl)
    have b3 := RowAt.node H.drew hx (i := 3) (v := firstP B) (by rw [hv]; rfl)
    cases B with
    | nil =>
      obtain ⟨v1, hr1⟩ := hr1 rfl
      rw [first_nil] at hv n3 b3
      have H1 := H.setN ha' 3 (.pointer none)
      have H1d := H1.drew
      have p2 := RowAt.node H1d hx (i := 2) (v := .pointer (some ⟨a1, 0, none⟩)) (by rw [updN_other hax.symm, hv]; rfl)
      have p3 := RowAt.node H1d hx (i := 3) (v := .pointer none) (by rw [updN_other hax.symm, hv]; rfl)
      have k1 := RowAt.head H1d hr1
      have f1 := RowAt.headF H1d (off + 1)
      have H2 := (H1.setH (off + 1) (.pointer (some ⟨a1, 0, none⟩))).drew
      have k2 := RowAt.head H2 (set_get hr2 (by omega))
      have f2 := RowAt.headF H2 (off + 2)
      have H3 := hide (((H1.setH (off + 1) (.pointer (some ⟨a1, 0, none⟩))).setH (off + 2) (.int .i64 (m : Nat))).drew)
      clear H H1 H1d H2
      go_enter Tryz.func70, Tryz.ntmps70
      go_upto_region 2 with fail
      go_region_held (fun w' => w'.cell? ⟨x, 3, none⟩ = some (.pointer none) ∧ w'.cell? ⟨x, 2, none⟩ = some (.pointer (some ⟨a1, 0, none⟩))) (first | exact ⟨b3, b2⟩ | exact ⟨p3, p2⟩) (fail)
      go_wp2
      go_end0
      refine ⟨rfl, ?_⟩
      unfold takeH takeN
      rw [hm]
      simp only [getLast_snoc, List.head?_nil, last_snoc, first_nil, ea]
      first | rw [if_pos rfl] | rw [if_pos trivial]
      rw [if_neg (by simp)]
      exact H3.out
    | cons c B =>
      rw [first_cons] at hv n3 b3
      have hc' : c.1 ∈ I := hi c (by simp)
      have hcx : c.1 ≠ x := hne c (by simp)
      have hac := hab c (by simp)
      obtain ⟨c1, ec⟩ : ∃ c1, c.1 = c1 := ⟨_, rfl⟩
      have hs4 : (nd c1).size = 4 := by rw [← ec]; exact h4 c (by simp)
      rw [ec] at hc' hcx hv n3 b3 hac
      obtain ⟨vc, hvc⟩ : ∃ v, (nd c1)[2]? = some v := ⟨_, Array.getElem?_eq_getElem (by omega)⟩
      have H1 := H.setN ha' 3 (.pointer (some ⟨c1, 0, none⟩))
      have H1d := H1.drew
      have p2 := RowAt.node H1d hx (i := 2) (v := .pointer (some ⟨a1, 0, none⟩)) (by rw [updN_other hax.symm, hv]; rfl)
      have p3 := RowAt.node H1d hx (i := 3) (v := .pointer (some ⟨c1, 0, none⟩)) (by rw [updN_other hax.symm, hv]; rfl)
      have H1e := H1d.drew
      have s2 := RowAt.node H1e hx (i := 2) (v := .pointer (some ⟨a1, 0, none⟩)) (by rw [updN_other hax.symm, hv]; rfl)
      have s3 := RowAt.node H1e hx (i := 3) (v := .pointer (some ⟨c1, 0, none⟩)) (by rw [updN_other hax.symm, hv]; rfl)
      have k1 := RowAt.node H1e hc' (i := 2) (v := vc) (by rw [updN_other hac.symm]; exact hvc)
      have f1 := RowAt.nodeF H1e hc' 2
      have H2 := (H1.setN hc' 2 (.pointer (some ⟨a1, 0, none⟩)))
      have H2e := H2.drew.drew
      have t2 := RowAt.node H2e hx (i := 2) (v := .pointer (some ⟨a1, 0, none⟩)) (by rw [updN_other hcx.symm, updN_other hax.symm, hv]; rfl)
      have t3 := RowAt.node H2e hx (i := 3) (v := .pointer (some ⟨c1, 0, none⟩)) (by rw [updN_other hcx.symm, updN_other hax.symm, hv]; rfl)
      have k2 := RowAt.head H2e hr2
      have f2 := RowAt.headF H2e (off + 2)
      have H3 := hide (((H2.setH (off + 2) (.int .i64 (m : Nat))).drew).drew)
      clear H H1 H1d H2 H1e H2e
      go_enter Tryz.func70, Tryz.ntmps70
      go_upto_region 2 with fail
      go_region_held (fun w' => w'.cell? ⟨x, 3, none⟩ = some (.pointer (some ⟨c1, 0, none⟩)) ∧ w'.cell? ⟨x, 2, none⟩ = some (.pointer (some ⟨a1, 0, none⟩))) (first | exact ⟨b3, b2⟩ | exact ⟨p3, p2⟩) (fail)
      go_upto_region 5 with fail
      go_region_held (fun w' => w'.cell? ⟨x, 3, none⟩ = some (.pointer (some ⟨c1, 0, none⟩)) ∧ w'.cell? ⟨x, 2, none⟩ = some (.pointer (some ⟨a1, 0, none⟩))) (first | exact ⟨s3, s2⟩ | exact ⟨t3, t2⟩) (fail)
      go_wp2
      go_end0
      refine ⟨rfl, ?_⟩
      unfold takeH takeN
      rw [hm]
      simp only [getLast_snoc, List.head?_cons, last_snoc, first_cons, ea, ec]
      rw [if_neg (by simp), if_neg (by simp)]
      exact H3.out
end Go.Proofs.YthfkcbnabnmnjabGreatDoor

namespace Go.Proofs.YthfkcbnabnmnjabGreatDoor
open Go.RowKit Go.Maps

/-- The head's cells. -/
def headR (m : Int) (bm : Nat) (tn sn : List Nk) : Array Value :=
  #[.int .i64 m, .map (some bm), firstP tn, lastP tn, .int .i64 (tn.length : Nat), firstP sn, lastP sn, .int .i64 (sn.length : Nat)]
theorem first_mid {A B : List Nk} {x : Nk} (h : A ≠ []) : firstP (A ++ x :: B) = firstP (A ++ B) := by
  cases A with
  | nil => exact (h rfl).elim
  | cons a A => rfl
theorem last_mid {A B : List Nk} {x : Nk} (h : B ≠ []) : lastP (A ++ x :: B) = lastP (A ++ B) := by
  cases B with
  | nil => exact (h rfl).elim
  | cons c B => rw [last_app, last_app, last_cons]
theorem head_take2 (m : Int) (bm : Nat) (A B sn : List Nk) (x : Nk) : takeH (headR m bm (A ++ x :: B) sn) 2 A B = headR m bm (A ++ B) sn := by
  unfold takeH
  by_cases hA : A = []
  · subst hA
    by_cases hB : B = []
    · subst hB
      simp [headR]
    · simp [headR, hB]
      exact last_mid (A := []) hB
  · by_cases hB : B = []
    · subst hB
      simp [headR, hA]
      have := first_mid (x := x) (B := []) hA
      simpa using this
    · simp [headR, hA, hB]
      exact ⟨first_mid hA, last_mid hB⟩
theorem head_take5 (m : Int) (bm : Nat) (A B tn : List Nk) (x : Nk) : takeH (headR m bm tn (A ++ x :: B)) 5 A B = headR m bm tn (A ++ B) := by
  unfold takeH
  by_cases hA : A = []
  · subst hA
    by_cases hB : B = []
    · subst hB
      simp [headR]
    · simp [headR, hB]
      exact last_mid (A := []) hB
  · by_cases hB : B = []
    · subst hB
      simp [headR, hA]
      have := first_mid (x := x) (B := []) hA
      simpa using this
    · simp [headR, hA, hB]
      exact ⟨first_mid hA, last_mid hB⟩
theorem first_snoc {l : List Nk} {x : Nk} (h : l ≠ []) : firstP (l ++ [x]) = firstP l := by
  have := first_mid (x := x) (B := []) h
  simpa using this
theorem head_put2 (m : Int) (bm : Nat) (tn sn : List Nk) (x : Nk) : putHr (headR m bm tn sn) 2 x.1 tn = headR m bm (tn ++ [x]) sn := by
  unfold putHr
  by_cases hA : tn = []
  · subst hA
    simp [headR, first_cons]
    exact (last_snoc [] x).symm
  · simp [headR, hA, last_snoc, first_snoc hA]
theorem head_put5 (m : Int) (bm : Nat) (tn sn : List Nk) (x : Nk) : putHr (headR m bm tn sn) 5 x.1 sn = headR m bm tn (sn ++ [x]) := by
  unfold putHr
  by_cases hA : sn = []
  · subst hA
    simp [headR, first_cons]
    exact (last_snoc [] x).symm
  · simp [headR, hA, last_snoc, first_snoc hA]
/-- Both rows' nodes know their rows and their neighbours. -/
structure Lk (b : Nat) (nd : Nat → Array Value) (I : List Nat) (tn sn : List Nk) : Prop where
  t : Chain b 2 nd tn
  s : Chain b 5 nd sn
  nodup : (ids (tn ++ sn)).Nodup
  sub : ∀ y ∈ tn ++ sn, y.1 ∈ I
/-- A node in no row. -/
structure Loose (nd : Nat → Array Value) (I : List Nat) (tn sn : List Nk) (x : Nk) : Prop where
  cells : ∃ i p q, nd x.1 = #[.string x.2, i, p, q]
  mem : x.1 ∈ I
  out : ∀ y ∈ tn ++ sn, y.1 ≠ x.1
theorem chain_size {b off : Nat} {nd : Nat → Array Value} {l : List Nk} (h : Chain b off nd l) : ∀ y ∈ l, (nd y.1).size = 4 := by
  intro y hy
  obtain ⟨A, B, e⟩ := List.append_of_mem hy
  rw [h A y B e]
  rfl
theorem nodup_apart {l m : List Nk} (h : (ids (l ++ m)).Nodup) : ∀ a ∈ l, ∀ c ∈ m, a.1 ≠ c.1 := by
  unfold ids at h
  rw [List.map_append, List.nodup_append] at h
  exact fun a ha c hc => h.2.2 a.1 (List.mem_map_of_mem ha) c.1 (List.mem_map_of_mem hc)
theorem nodup_left {l m : List Nk} (h : (ids (l ++ m)).Nodup) : (ids l).Nodup := by
  unfold ids at h
  rw [List.map_append, List.nodup_append] at h
  exact h.1
theorem nodup_right {l m : List Nk} (h : (ids (l ++ m)).Nodup) : (ids m).Nodup := by
  unfold ids at h
  rw [List.map_append, List.nodup_append] at h
  exact h.2.1
theorem nodup_sub {l m : List Nk} (h : (ids m).Nodup) (hs : l.Sublist m) : (ids l).Nodup := (hs.map _).nodup h
theorem mid_sub (A B : List Nk) (x : Nk) : (A ++ B).Sublist (A ++ x :: B) := (List.Sublist.refl A).append (List.sublist_cons_self x B)
section
variable {b : Nat} {nd : Nat → Array Value} {I : List Nat} {tn sn A B : List Nk} {x : Nk}
theorem take_same {A B : List Nk} {k : Nat} (h : ∀ y ∈ A ++ B, y.1 ≠ k) : takeN nd A B k = nd k :=
  takeN_other (fun a ha e => h a (List.mem_append_left _ (mem_last ha)) e.symm) fun c hc e => h c (List.mem_append_right _ (mem_first hc)) e.symm
theorem put_same {off y : Nat} {l : List Nk} {k : Nat} (hk : k ≠ y) (h : ∀ y ∈ l, y.1 ≠ k) : putN nd b off y l k = nd k := putN_other hk fun a ha e => h a (mem_last ha) e.symm
theorem Lk.takeT (h : Lk b nd I (A ++ x :: B) sn) : Lk b (takeN nd A B) I (A ++ B) sn ∧ Loose (takeN nd A B) I (A ++ B) sn x := by
  have hn1 := nodup_left h.nodup
  have hap := nodup_apart h.nodup
  have hx : ∀ y ∈ A ++ B, y.1 ≠ x.1 := fun y hy => ids_ne hn1 (List.mem_append.1 hy)
  refine ⟨⟨chain_take h.t hn1, chain_same h.s fun y hy => take_same fun z hz => hap z ((mid_sub A B x).subset hz) y hy, nodup_sub h.nodup ((mid_sub A B x).append (List.Sublist.refl _)), fun y hy => h.sub y (((mid_sub A B x).append (List.Sublist.refl _)).subset hy)⟩, ⟨?_, h.sub x (by simp), ?_⟩⟩
  · rw [take_same hx, h.t A x B rfl]
    exact ⟨_, _, _, rfl⟩
  · intro y hy
    rcases List.mem_append.1 hy with hy | hy
    · exact hx y hy
    · exact fun e => hap x (by simp) y hy e.symm
theorem Lk.takeS (h : Lk b nd I tn (A ++ x :: B)) : Lk b (takeN nd A B) I tn (A ++ B) ∧ Loose (takeN nd A B) I tn (A ++ B) x := by
  have hn1 := nodup_right h.nodup
  have hap := nodup_apart h.nodup
  have hx : ∀ y ∈ A ++ B, y.1 ≠ x.1 := fun y hy => ids_ne hn1 (List.mem_append.1 hy)
  refine ⟨⟨chain_same h.t fun y hy => take_same fun z hz e => hap y hy z ((mid_sub A B x).subset hz) e.symm, chain_take h.s hn1, nodup_sub h.nodup ((List.Sublist.refl _).append (mid_sub A B x)), fun y hy => h.sub y (((List.Sublist.refl _).append (mid_sub A B x)).subset hy)⟩, ⟨?_, h.sub x (by simp), ?_⟩⟩
  · rw [take_same hx, h.s A x B rfl]
    exact ⟨_, _, _, rfl⟩
  · intro y hy
    rcases List.mem_append.1 hy with hy | hy
    · exact hap y hy x (by simp)
    · exact hx y hy
theorem Lk.putT (h : Lk b nd I tn sn) (hx : Loose nd I tn sn x) : Lk b (putN nd b 2 x.1 tn) I (tn ++ [x]) sn := by
  obtain ⟨i, p, q, hc⟩ := hx.cells
  have hap := nodup_apart h.nodup
  have hp : (tn ++ [x] ++ sn).Perm (x :: (tn ++ sn)) := by
    rw [List.append_assoc]
    exact List.perm_middle
  have hn : (ids (tn ++ [x] ++ sn)).Nodup := by
    refine (hp.map Prod.fst).nodup_iff.2 (List.nodup_cons.2 ⟨fun hm => ?_, h.nodup⟩)
    obtain ⟨y, hy, e⟩ := List.mem_map.1 hm
    exact hx.out y hy e
  refine ⟨chain_put h.t (nodup_left hn) hc, chain_same h.s fun y hy => put_same (hx.out y (List.mem_append_right _ hy)) fun z hz => hap z hz y hy, hn, fun y hy => ?_⟩
  rcases List.mem_cons.1 (hp.subset hy) with rfl | hy
  · exact hx.mem
  · exact h.sub y hy
theorem Lk.putS (h : Lk b nd I tn sn) (hx : Loose nd I tn sn x) : Lk b (putN nd b 5 x.1 sn) I tn (sn ++ [x]) := by
  obtain ⟨i, p, q, hc⟩ := hx.cells
  have hap := nodup_apart h.nodup
  have hp : (tn ++ (sn ++ [x])).Perm (x :: (tn ++ sn)) := by
    rw [← List.append_assoc]
    exact List.perm_append_comm
  have hn : (ids (tn ++ (sn ++ [x]))).Nodup := by
    refine (hp.map Prod.fst).nodup_iff.2 (List.nodup_cons.2 ⟨fun hm => ?_, h.nodup⟩)
    obtain ⟨y, hy, e⟩ := List.mem_map.1 hm
    exact hx.out y hy e
  refine ⟨chain_same h.t fun y hy => put_same (hx.out y (List.mem_append_left _ hy)) fun z hz e => hap y hy z hz e.symm, chain_put h.s (nodup_right hn) hc, hn, fun y hy => ?_⟩
  rcases List.mem_cons.1 (hp.subset hy) with rfl | hy
  · exact hx.mem
  · exact h.sub y hy
end
/-- A list's head and its nodes, beside R. -/
structure Lst (F : Nat → Prop) (w0 w : World) (b : Nat) (m : Int) (bm : Nat) (I : List Nat) (nd : Nat → Array Value) (tn sn : List Nk) (R : Part) : Prop where
  row : RowAt F w0 w b (headR m bm tn sn) I nd R
  lk : Lk b nd I tn sn
  small : tn.length + sn.length ≤ maxLen
section
variable {F : Nat → Prop} {w0 w : World} {b : Nat} {m : Int} {bm : Nat} {I : List Nat} {nd : Nat → Array Value} {tn sn A B : List Nk} {x : Nk} {R : Part}
theorem takeT_is (H : Lst F w0 w b m bm I nd (A ++ x :: B) sn R) : Calls Tryz.prog 70 #[.pointer (some ⟨b, 2, none⟩), .pointer (some ⟨x.1, 0, none⟩)] w fun e w' => e = .returned (.tuple #[]) ∧ ∃ nd', Lst F w0 w' b m bm I nd' (A ++ B) sn R ∧ Loose nd' I (A ++ B) sn x := by
  have hn1 := nodup_left H.lk.nodup
  have hs := H.small
  simp at hs
  refine (takeOut_any (A := A) (B := B) (s := x.2) H.row (fun _ => ⟨_, rfl⟩) (fun _ => ⟨_, rfl⟩) (by simp [headR]; omega) (by omega) (H.lk.sub x (by simp)) (fun y hy => H.lk.sub y (List.mem_append_left _ ((mid_sub A B x).subset hy))) (fun y hy => ids_ne hn1 (List.mem_append.1 hy)) (nodup_apart (nodup_sub hn1 (mid_sub A B x))) (H.lk.t A x B rfl) (fun y hy => chain_size H.lk.t y ((mid_sub A B x).subset hy))).mono ?_
  rintro e w' ⟨rfl, H'⟩
  rw [head_take2] at H'
  obtain ⟨k1, k2⟩ := H.lk.takeT
  exact ⟨rfl, _, ⟨H', k1, by simp; omega⟩, k2⟩
theorem takeS_is (H : Lst F w0 w b m bm I nd tn (A ++ x :: B) R) : Calls Tryz.prog 70 #[.pointer (some ⟨b, 5, none⟩), .pointer (some ⟨x.1, 0, none⟩)] w fun e w' => e = .returned (.tuple #[]) ∧ ∃ nd', Lst F w0 w' b m bm I nd' tn (A ++ B) R ∧ Loose nd' I tn (A ++ B) x := by
  have hn1 := nodup_right H.lk.nodup
  have hs := H.small
  simp at hs
  refine (takeOut_any (A := A) (B := B) (s := x.2) H.row (fun _ => ⟨_, rfl⟩) (fun _ => ⟨_, rfl⟩) (by simp [headR]; omega) (by omega) (H.lk.sub x (by simp)) (fun y hy => H.lk.sub y (List.mem_append_right _ ((mid_sub A B x).subset hy))) (fun y hy => ids_ne hn1 (List.mem_append.1 hy)) (nodup_apart (nodup_sub hn1 (mid_sub A B x))) (H.lk.s A x B rfl) (fun y hy => chain_size H.lk.s y ((mid_sub A B x).subset hy))).mono ?_
  rintro e w' ⟨rfl, H'⟩
  rw [head_take5] at H'
  obtain ⟨k1, k2⟩ := H.lk.takeS
  exact ⟨rfl, _, ⟨H', k1, by simp; omega⟩, k2⟩
theorem putT_is (H : Lst F w0 w b m bm I nd tn sn R) (hx : Loose nd I tn sn x) (hs : tn.length + sn.length < maxLen) : Calls Tryz.prog 71 #[.pointer (some ⟨b, 2, none⟩), .pointer (some ⟨x.1, 0, none⟩)] w fun e w' => e = .returned (.tuple #[]) ∧ ∃ nd', Lst F w0 w' b m bm I nd' (tn ++ [x]) sn R := by
  obtain ⟨i, p, q, hc⟩ := hx.cells
  refine (putLast_any (l := tn) (s := x.2) H.row ⟨rfl, rfl, rfl⟩ (by omega) hx.mem (fun y hy => H.lk.sub y (List.mem_append_left _ hy)) (fun y hy => hx.out y (List.mem_append_left _ hy)) hc (chain_size H.lk.t)).mono ?_
  rintro e w' ⟨rfl, H'⟩
  rw [head_put2] at H'
  exact ⟨rfl, _, H', H.lk.putT hx, by simp; omega⟩
theorem putS_is (H : Lst F w0 w b m bm I nd tn sn R) (hx : Loose nd I tn sn x) (hs : tn.length + sn.length < maxLen) : Calls Tryz.prog 71 #[.pointer (some ⟨b, 5, none⟩), .pointer (some ⟨x.1, 0, none⟩)] w fun e w' => e = .returned (.tuple #[]) ∧ ∃ nd', Lst F w0 w' b m bm I nd' tn (sn ++ [x]) R := by
  obtain ⟨i, p, q, hc⟩ := hx.cells
  refine (putLast_any (l := sn) (s := x.2) H.row ⟨rfl, rfl, rfl⟩ (by omega) hx.mem (fun y hy => H.lk.sub y (List.mem_append_right _ hy)) (fun y hy => hx.out y (List.mem_append_right _ hy)) hc (chain_size H.lk.s)).mono ?_
  rintro e w' ⟨rfl, H'⟩
  rw [head_put5] at H'
  exact ⟨rfl, _, H', H.lk.putS hx, by simp; omega⟩
end
set_option maxHeartbeats 2000000 in
theorem move_walk {b o1 o2 x : Nat} {w : World} {Q1 Q2 : World → Prop} (hc : w.cell? ⟨x, 1, none⟩ = some (.pointer (some ⟨b, o1, none⟩)))
    (h1 : Calls Tryz.prog 70 #[.pointer (some ⟨b, o1, none⟩), .pointer (some ⟨x, 0, none⟩)] w fun e w' => e = .returned (.tuple #[]) ∧ Q1 w')
    (h2 : ∀ w1, Q1 w1 → Calls Tryz.prog 71 #[.pointer (some ⟨b, o2, none⟩), .pointer (some ⟨x, 0, none⟩)] w1 fun e w' => e = .returned (.tuple #[]) ∧ Q2 w') :
    Calls Tryz.prog 46 #[.pointer (some ⟨x, 0, none⟩), .pointer (some ⟨b, o2, none⟩)] w fun e w' => e = .returned (.tuple #[]) ∧ Q2 w' := by
  go_enter Tryz.func46, Tryz.ntmps46
  go_wp2_with (first | (go_at_call 70; refine h1.mono ?_; rintro e w1 ⟨rfl, q1⟩) | (go_at_call 71; refine (h2 _ q1).mono ?_; rintro e w2 ⟨rfl, q2⟩))
  go_end0
  exact ⟨rfl, q2⟩
section
variable {F : Nat → Prop} {w0 w : World} {b : Nat} {m : Int} {bm : Nat} {I : List Nat} {nd : Nat → Array Value} {tn sn A B : List Nk} {x : Nk} {R : Part}
theorem moveTS_is (H : Lst F w0 w b m bm I nd (A ++ x :: B) sn R) : Calls Tryz.prog 46 #[.pointer (some ⟨x.1, 0, none⟩), .pointer (some ⟨b, 5, none⟩)] w fun e w' => e = .returned (.tuple #[]) ∧ ∃ nd', Lst F w0 w' b m bm I nd' (A ++ B) (sn ++ [x]) R := by
  have hs := H.small
  simp at hs
  exact move_walk (H.row.node (H.lk.sub x (by simp)) (by rw [H.lk.t A x B rfl]; rfl)) (takeT_is H) fun w1 ⟨nd1, H1, hx⟩ => putS_is H1 hx (by simp; omega)
theorem moveSS_is (H : Lst F w0 w b m bm I nd tn (A ++ x :: B) R) : Calls Tryz.prog 46 #[.pointer (some ⟨x.1, 0, none⟩), .pointer (some ⟨b, 5, none⟩)] w fun e w' => e = .returned (.tuple #[]) ∧ ∃ nd', Lst F w0 w' b m bm I nd' tn (A ++ B ++ [x]) R := by
  have hs := H.small
  simp at hs
  exact move_walk (H.row.node (H.lk.sub x (by simp)) (by rw [H.lk.s A x B rfl]; rfl)) (takeS_is H) fun w1 ⟨nd1, H1, hx⟩ => putS_is H1 hx (by simp; omega)
theorem moveST_is (H : Lst F w0 w b m bm I nd tn (A ++ x :: B) R) : Calls Tryz.prog 46 #[.pointer (some ⟨x.1, 0, none⟩), .pointer (some ⟨b, 2, none⟩)] w fun e w' => e = .returned (.tuple #[]) ∧ ∃ nd', Lst F w0 w' b m bm I nd' (tn ++ [x]) (A ++ B) R := by
  have hs := H.small
  simp at hs
  exact move_walk (H.row.node (H.lk.sub x (by simp)) (by rw [H.lk.s A x B rfl]; rfl)) (takeS_is H) fun w1 ⟨nd1, H1, hx⟩ => putT_is H1 hx (by simp; omega)
end
end Go.Proofs.YthfkcbnabnmnjabGreatDoor
