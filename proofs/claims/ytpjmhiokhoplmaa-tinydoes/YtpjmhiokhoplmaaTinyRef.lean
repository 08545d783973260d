/- What the document's own judge answers, over the document's own filter and sketch. Conditions: texts take at most 140737488351232 bytes. -/
import Derived.Test.YtpjmhiokhoplmaaBloomRefAdd
import Derived.Test.YtpjmhiokhoplmaaSketchRefAdd
import Derived.Test.YtpjmhiokhoplmaaTinyM
namespace Go.Proofs.Ytpjmhiokhoplmaa
open Go.RowKit

theorem own_same {w w' : World} {n0 n : Nat} {e : TypeId} {v : Value} {xs : List Value} (h : w.ownsRow n0 e 1 v n xs) (hs : ∀ k, v.ownBlock = some k → w'.heap[k]? = w.heap[k]?) : w'.ownsRow n0 e 1 v n xs := by
  refine ⟨h.1, ?_⟩
  rcases h.2 with h1 | ⟨g, cap, cur, hv, h2, h3, h4⟩
  · exact .inl h1
  · exact .inr ⟨g, cap, cur, hv, h2, (hs g (by rw [hv]; rfl)).trans h3, h4⟩
theorem RFil.same {n0 c sd : Nat} {w w' : World} {S : List Nat} {v : Value} (h : RFil n0 w c sd S v) (hc : w'.heap[c]? = w.heap[c]?) (hs : ∀ k, v.ownBlock = some k → w'.heap[k]? = w.heap[k]?) : RFil n0 w' c sd S v := ⟨hc.trans h.1, own_same h.2 hs⟩
theorem RSk.same {w w' : World} {c g sd : Nat} {st : St} (h : RSk w c g sd st) (hc : w'.heap[c]? = w.heap[c]?) (hg : w'.heap[g]? = w.heap[g]?) : RSk w' c g sd st := ⟨hc.trans h.head, hg.trans h.row, h.len, h.ne⟩
theorem RSk.lt {w : World} {c g sd : Nat} {st : St} (h : RSk w c g sd st) : c < w.heap.size ∧ g < w.heap.size := ⟨(Array.getElem?_eq_some_iff.1 h.head).1, (Array.getElem?_eq_some_iff.1 h.row).1⟩
/-- The blocks of the document's judge: its own, its filter's, its sketch's two, and that of the filter's places. -/
def JOwn (h c kc g : Nat) (v : Value) : Nat → Prop := fun k => k = h ∨ k = c ∨ k = kc ∨ k = g ∨ v.ownBlock = some k
/-- The document's judge at block h. -/
structure RJ (n0 : Nat) (w : World) (h c kc g sd : Nat) (j : Js) (v : Value) : Prop where
  head : w.heap[h]? = some (.cells #[.pointer (some ⟨c, 0, none⟩), .pointer (some ⟨kc, 0, none⟩)] 52 (0, 0))
  fil : RFil n0 w c sd j.1 v
  sk : RSk w kc g (sd1 sd) j.2
  vh : v.ownBlock ≠ some h
  vc : v.ownBlock ≠ some c
  vk : v.ownBlock ≠ some kc
  vg : v.ownBlock ≠ some g
  hc : h ≠ c
  hk : h ≠ kc
  hg : h ≠ g
  ck : c ≠ kc
  cg : c ≠ g
  from0 : ∀ k, JOwn h c kc g v k → n0 ≤ k
theorem RJ.lt {n0 h c kc g sd : Nat} {w : World} {j : Js} {v : Value} (R : RJ n0 w h c kc g sd j v) : ∀ k, JOwn h c kc g v k → k < w.heap.size := by
  rintro k (rfl | rfl | rfl | rfl | hk)
  · exact (Array.getElem?_eq_some_iff.1 R.head).1
  · exact R.fil.lt
  · exact R.sk.lt.1
  · exact R.sk.lt.2
  · exact (R.fil.2.lt k hk).2
theorem RJ.same {n0 h c kc g sd : Nat} {w w' : World} {j : Js} {v : Value} (R : RJ n0 w h c kc g sd j v) (hs : ∀ k, JOwn h c kc g v k → w'.heap[k]? = w.heap[k]?) : RJ n0 w' h c kc g sd j v :=
  { R with
    head := (hs h (.inl rfl)).trans R.head
    fil := R.fil.same (hs c (.inr (.inl rfl))) fun k hk => hs k (.inr (.inr (.inr (.inr hk))))
    sk := R.sk.same (hs kc (.inr (.inr (.inl rfl)))) (hs g (.inr (.inr (.inr (.inl rfl))))) }
theorem RJ.drewN {n0 h c kc g sd : Nat} {w : World} {j : Js} {v : Value} (R : RJ n0 w h c kc g sd j v) (d : Nat) : RJ n0 (w.drewN d) h c kc g sd j v := R.same fun _ _ => rfl
theorem RJ.kept {n0 h c kc g sd : Nat} {w w' : World} {j : Js} {v : Value} (R : RJ n0 w h c kc g sd j v) (hg : w.grownBy w' none) : RJ n0 w' h c kc g sd j v := R.same fun k hk => hg.block k (R.lt k hk) (by simp)
set_option maxHeartbeats 1000000 in
theorem rjworth_any {n0 h c kc g sd : Nat} {w : World} {j : Js} {v : Value} (R : RJ n0 w h c kc g sd j v) (hG : GoodJ j) (s : ByteArray) (hs : s.size ≤ 140737488351232) :
    Calls Try.prog 16 #[.pointer (some ⟨h, 0, none⟩), .string s] w fun e w' => e = .returned (.int .i64 (worthJ sd j s.data.toList)) ∧ ∃ d, w' = w.drewN d := by
  have c0 : w.cell? ⟨h, 0, none⟩ = some (.pointer (some ⟨c, 0, none⟩)) := by rw [cell_of_row w h 0 _ _ _ R.head]; rfl
  have c1 : w.cell? ⟨h, 1, none⟩ = some (.pointer (some ⟨kc, 0, none⟩)) := by rw [cell_of_row w h 1 _ _ _ R.head]; rfl
  have HC := hide (rcount_any R.sk s hs)
  have hle := cnt_le j.2.1 (plcs (sd1 sd) s.data.toList)
  have HW : Hid (worthJ sd j s.data.toList = cnt j.2.1 (plcs (sd1 sd) s.data.toList) + (if hasS j.1 (pls sd s.data.toList) then 1 else 0)) := rfl
  have HH := hide (fun d => rhas_any (R.drewN d).fil (Nat.le_trans (good_len hG.set) (by decide)) s hs)
  generalize cnt j.2.1 (plcs (sd1 sd) s.data.toList) = n at *
  generalize hasS j.1 (pls sd s.data.toList) = q at *
  cases q with
  | true =>
    go_enter Try.func16, Try.ntmps16
    go_wp2_with (first
      | (go_at_call 31; refine HC.out.mono ?_; rintro e w1 ⟨rfl, d, rfl⟩)
      | (go_at_call 32; refine (HH.out _).mono ?_; rintro e w2 ⟨rfl, rfl⟩))
    go_ret
    exact ⟨by rw [HW.out]; rfl, d, rfl⟩
  | false =>
    go_enter Try.func16, Try.ntmps16
    go_wp2_with (first
      | (go_at_call 31; refine HC.out.mono ?_; rintro e w1 ⟨rfl, d, rfl⟩)
      | (go_at_call 32; refine (HH.out _).mono ?_; rintro e w2 ⟨rfl, rfl⟩))
    go_ret
    exact ⟨by rw [HW.out]; rfl, d, rfl⟩

/-- The filter turned, the sketch turned, the filter wiped. -/
theorem RJ.add {n0 h c kc g sd : Nat} {w w1 : World} {j : Js} {v v1 : Value} {S1 : List Nat} (R : RJ n0 w h c kc g sd j v) (hn : n0 ≤ w.heap.size) (R1 : RFil n0 w1 c sd S1 v1) (hc1 : v1.ownBlock ≠ some c) (hG : Gr (fun k => k = c ∨ v.ownBlock = some k) w w1)
    (hf : ∀ k, v1.ownBlock = some k → v.ownBlock = some k ∨ w.heap.size ≤ k) : RJ n0 w1 h c kc g sd (S1, j.2) v1 := by
  have lh := R.lt h (.inl rfl)
  have lk := R.lt kc (.inr (.inr (.inl rfl)))
  have lg := R.lt g (.inr (.inr (.inr (.inl rfl))))
  have far : ∀ k, k < w.heap.size → v.ownBlock ≠ some k → v1.ownBlock ≠ some k := fun k hk hv e => (hf k e).elim hv (fun hw => Nat.not_lt_of_le hw hk)
  exact {
    head := (hG.block h lh (fun e => e.elim R.hc R.vh)).trans R.head
    fil := R1
    sk := R.sk.same (hG.block kc lk (fun e => e.elim (fun x => R.ck x.symm) R.vk)) (hG.block g lg (fun e => e.elim (fun x => R.cg x.symm) R.vg))
    vh := far h lh R.vh
    vc := hc1
    vk := far kc lk R.vk
    vg := far g lg R.vg
    hc := R.hc, hk := R.hk, hg := R.hg, ck := R.ck, cg := R.cg
    from0 := by
      rintro k (rfl | rfl | rfl | rfl | hk)
      · exact R.from0 _ (.inl rfl)
      · exact R.from0 _ (.inr (.inl rfl))
      · exact R.from0 _ (.inr (.inr (.inl rfl)))
      · exact R.from0 _ (.inr (.inr (.inr (.inl rfl))))
      · exact (hf k hk).elim (fun e => R.from0 k (.inr (.inr (.inr (.inr e))))) (fun e => Nat.le_trans hn e) }
theorem RJ.addK {n0 h c kc g sd : Nat} {w w1 : World} {j : Js} {v : Value} {st : St} (R : RJ n0 w h c kc g sd j v) (R1 : RSk w1 kc g (sd1 sd) st) (hG : Gr (Own2 kc g) w w1) : RJ n0 w1 h c kc g sd (j.1, st) v :=
  { R with
    head := (hG.block h (R.lt h (.inl rfl)) (fun e => e.elim R.hk R.hg)).trans R.head
    fil := R.fil.same (hG.block c (R.lt c (.inr (.inl rfl))) (fun e => e.elim R.ck R.cg)) fun k hk => hG.block k (R.lt k (.inr (.inr (.inr (.inr hk))))) (fun e => e.elim (fun x => R.vk (by rw [hk, x])) (fun x => R.vg (by rw [hk, x])))
    sk := R1 }
theorem RJ.wipe {n0 h c kc g sd : Nat} {w : World} {j : Js} {v : Value} (R : RJ n0 w h c kc g sd j v) : RJ n0 (w.setCell ⟨c, 1, none⟩ (.slice none 0 0)) h c kc g sd ([], j.2) (.slice none 0 0) :=
  { R with
    head := (heap_setCell_other _ _ _ _ R.hc).trans R.head
    fil := ⟨pair_set R.fil.1 _, World.ownsRow_nil _ _ _ _⟩
    sk := R.sk.same (heap_setCell_other _ _ _ _ (fun e => R.ck e.symm)) (heap_setCell_other _ _ _ _ (fun e => R.cg e.symm))
    vh := by simp [Value.ownBlock]
    vc := by simp [Value.ownBlock]
    vk := by simp [Value.ownBlock]
    vg := by simp [Value.ownBlock]
    from0 := by
      rintro k (rfl | rfl | rfl | rfl | hk)
      · exact R.from0 _ (.inl rfl)
      · exact R.from0 _ (.inr (.inl rfl))
      · exact R.from0 _ (.inr (.inr (.inl rfl)))
      · exact R.from0 _ (.inr (.inr (.inr (.inl rfl))))
      · simp [Value.ownBlock] at hk }
theorem gr_mono {F G : Nat → Prop} {a b : World} (h : Gr F a b) (hF : ∀ k, F k → G k) : Gr G a b := ⟨h.os, h.tape, h.output, h.size, fun k hk hr => h.block k hk (fun hf => hr (hF k hf))⟩
theorem jown_fil {w w' : World} {h c kc g : Nat} {v : Value} (hG : Gr (fun k => k = c ∨ v.ownBlock = some k) w w') : Gr (JOwn h c kc g v) w w' := gr_mono hG fun _ e => e.elim (fun x => .inr (.inl x)) (fun x => .inr (.inr (.inr (.inr x))))
theorem jown_sk {w w' : World} {h c kc g : Nat} {v : Value} (hG : Gr (Own2 kc g) w w') : Gr (JOwn h c kc g v) w w' := gr_mono hG fun _ e => e.elim (fun x => .inr (.inr (.inl x))) (fun x => .inr (.inr (.inr (.inl x))))
theorem RJ.cell0 {n0 h c kc g sd : Nat} {w : World} {j : Js} {v : Value} (R : RJ n0 w h c kc g sd j v) : w.cell? ⟨h, 0, none⟩ = some (.pointer (some ⟨c, 0, none⟩)) := by rw [cell_of_row w h 0 _ _ _ R.head]; rfl
theorem RJ.cell1 {n0 h c kc g sd : Nat} {w : World} {j : Js} {v : Value} (R : RJ n0 w h c kc g sd j v) : w.cell? ⟨h, 1, none⟩ = some (.pointer (some ⟨kc, 0, none⟩)) := by rw [cell_of_row w h 1 _ _ _ R.head]; rfl

set_option maxHeartbeats 2000000 in
theorem rjtouch_any {n0 h c kc g sd : Nat} {w : World} {j : Js} {v : Value} (R : RJ n0 w h c kc g sd j v) (hn : n0 ≤ w.heap.size) (hG : GoodJ j) (s : ByteArray) (hs : s.size ≤ 140737488351232) :
    Calls Try.prog 14 #[.pointer (some ⟨h, 0, none⟩), .string s] w fun e w' => (∃ v0, e = .returned v0) ∧ ∃ v', RJ n0 w' h c kc g sd (touchJ sd j s.data.toList) v' ∧ Gr (JOwn h c kc g v) w w' ∧ (∀ k, v'.ownBlock = some k → v.ownBlock = some k ∨ w.heap.size ≤ k) := by
  have c0 : w.cell? ⟨h, 0, none⟩ = some (.pointer (some ⟨c, 0, none⟩)) := by rw [cell_of_row w h 0 _ _ _ R.head]; rfl
  have HA := hide (radd_any R.fil R.vc hn (Nat.le_trans (good_len hG.set) (by decide)) s hs)
  have HT : Hid (touchJ sd j s.data.toList = if hasS j.1 (pls sd s.data.toList) then (if halved j.2 then ([], addK (sd1 sd) j.2 s.data.toList) else (addS j.1 (pls sd s.data.toList), addK (sd1 sd) j.2 s.data.toList)) else (addS j.1 (pls sd s.data.toList), j.2)) := rfl
  generalize hasS j.1 (pls sd s.data.toList) = q at *
  cases q with
  | false =>
    go_enter Try.func14, Try.ntmps14
    go_wp2_with (go_at_call 27; refine HA.out.mono ?_; rintro e w1 ⟨rfl, v1, hR1, hc1, hg1, hf1⟩)
    refine bodyPost_ret (results_none rfl _ _ _) rfl ?_
    refine ⟨⟨_, rfl⟩, v1, ?_, jown_fil hg1, hf1⟩
    rw [HT.out]
    exact R.add hn hR1 hc1 hg1 hf1
  | true =>
    obtain ⟨r, hr⟩ : ∃ r, halved j.2 = r := ⟨_, rfl⟩
    have HR := hide hr
    rw [hr] at HT
    clear hr
    cases r with
    | false =>
      go_enter Try.func14, Try.ntmps14
      go_wp2_with (first
        | (go_at_call 27; refine HA.out.mono ?_; clear HA; rintro e w1 ⟨rfl, v1, hR1, hc1, hg1, hf1⟩; have R1 := R.add hn hR1 hc1 hg1 hf1; have c1 := R1.cell1)
        | (go_at_call 28; refine (raddK_any R1.sk hG.st s hs).mono ?_; rintro e w2 ⟨he, hR2, hg2⟩; rw [HR.out] at he; subst he; have R2 := R1.addK hR2 hg2))
      go_end0
      refine ⟨⟨_, rfl⟩, v1, ?_, (jown_fil hg1).then (jown_sk (h := h) (c := c) (v := v) hg2) (fun _ _ e => e), hf1⟩
      rw [HT.out]
      exact R2
    | true =>
      go_enter Try.func14, Try.ntmps14
      go_wp2_with (first
        | (go_at_call 27; refine HA.out.mono ?_; clear HA; rintro e w1 ⟨rfl, v1, hR1, hc1, hg1, hf1⟩; have R1 := R.add hn hR1 hc1 hg1 hf1; have c1 := R1.cell1)
        | (go_at_call 28; refine (raddK_any R1.sk hG.st s hs).mono ?_; rintro e w2 ⟨he, hR2, hg2⟩; rw [HR.out] at he; subst he; have R2 := R1.addK hR2 hg2; have c2 := R2.cell0; have c3 := R2.fil.set; have c4 := R2.fil.free))
      go_end0
      refine ⟨⟨_, rfl⟩, .slice none 0 0, ?_, ((jown_fil hg1).then (jown_sk (h := h) (c := c) (v := v) hg2) (fun _ _ e => e)).trans (gr_setCell _ _ _ _ _ (.inr (.inl rfl))), fun k e => by simp [Value.ownBlock] at e⟩
      rw [HT.out]
      exact R2.wipe

set_option maxHeartbeats 1000000 in
theorem rjadmit_any {n0 h c kc g sd : Nat} {w : World} {j : Js} {v : Value} (R : RJ n0 w h c kc g sd j v) (hG : GoodJ j) (s t : ByteArray) (hs : s.size ≤ 140737488351232) (ht : t.size ≤ 140737488351232) :
    Calls Try.prog 18 #[.pointer (some ⟨h, 0, none⟩), .string s, .string t] w fun e w' => e = .returned (.bool (decide (worthJ sd j t.data.toList < worthJ sd j s.data.toList))) ∧ ∃ d, w' = w.drewN d := by
  have H1 := hide (rjworth_any R hG s hs)
  have H2 := hide (fun d => rjworth_any (R.drewN d) hG t ht)
  generalize worthJ sd j s.data.toList = x at *
  generalize worthJ sd j t.data.toList = y at *
  go_enter Try.func18, Try.ntmps18
  go_wp2_with (first
    | (go_at_call 16; refine H1.out.mono ?_; clear H1; rintro e w1 ⟨rfl, d, rfl⟩)
    | (go_at_call 16; refine (H2.out _).mono ?_; clear H2; rintro e w1 ⟨rfl, d2, rfl⟩))
  go_ret
  exact ⟨rfl, d + d2, rfl⟩
theorem rj_made {n0 sd : Nat} {w w1 : World} (hn : n0 ≤ w.heap.size) (hR : RSk w1 (w.heap.size + 1 + 1) (w.heap.size + 1) (sd1 sd) fresh) (hg : (w.alloc (.cells #[.int .u64 sd, .slice none 0 0] 48)).grownBy w1 none) :
    RJ n0 (w1.alloc (.cells #[.pointer (some ⟨w.heap.size, 0, none⟩), .pointer (some ⟨w.heap.size + 1 + 1, 0, none⟩)] 52)) w1.heap.size w.heap.size (w.heap.size + 1 + 1) (w.heap.size + 1) sd freshJ (.slice none 0 0) ∧
    (∀ k, JOwn w1.heap.size w.heap.size (w.heap.size + 1 + 1) (w.heap.size + 1) (.slice none 0 0) k → w.heap.size ≤ k) ∧ w.grownBy (w1.alloc (.cells #[.pointer (some ⟨w.heap.size, 0, none⟩), .pointer (some ⟨w.heap.size + 1 + 1, 0, none⟩)] 52)) none := by
  have hsz := hg.size
  rw [World.size_alloc] at hsz
  have hlt := hR.lt
  have far : ∀ k, JOwn w1.heap.size w.heap.size (w.heap.size + 1 + 1) (w.heap.size + 1) (.slice none 0 0) k → w.heap.size ≤ k := by
    rintro k (rfl | rfl | rfl | rfl | hk)
    · omega
    · omega
    · omega
    · omega
    · simp [Value.ownBlock] at hk
  have hc : w1.heap[w.heap.size]? = some (.cells #[.int .u64 sd, .slice none 0 0] 48 (0, 0)) := (hg.block w.heap.size (by rw [World.size_alloc]; omega) (by simp)).trans (heap_alloc_new w _)
  refine ⟨?_, far, gr_trans (gr_trans (World.grownBy_alloc _ _ _) hg) (World.grownBy_alloc _ _ _)⟩
  exact {
    head := heap_alloc_new w1 _
    fil := ⟨(heap_alloc_old w1 _ (by omega)).trans hc, World.ownsRow_nil _ _ _ _⟩
    sk := hR.same (heap_alloc_old w1 _ hlt.1) (heap_alloc_old w1 _ hlt.2)
    vh := by simp [Value.ownBlock]
    vc := by simp [Value.ownBlock]
    vk := by simp [Value.ownBlock]
    vg := by simp [Value.ownBlock]
    hc := by omega
    hk := by omega
    hg := by omega
    ck := by omega
    cg := by omega
    from0 := fun k hk => Nat.le_trans hn (far k hk) }
set_option maxHeartbeats 1000000 in
theorem rjnew_any (sd : Nat) (n0 : Nat) (w : World) (hn : n0 ≤ w.heap.size) : Calls Try.prog 11 #[.int .u64 sd] w fun e w' => ∃ h c kc g, e = .returned (.pointer (some ⟨h, 0, none⟩)) ∧ RJ n0 w' h c kc g sd freshJ (.slice none 0 0) ∧ (∀ k, JOwn h c kc g (.slice none 0 0) k → w.heap.size ≤ k) ∧ w.grownBy w' none := by
  have E : IntKind.u64.wrap ((sd : Int) + 1) = ((sd1 sd : Nat) : Int) := by
    unfold sd1
    rw [IntKind.wrap_u64]
    omega
  have HN := hide (fun W => rnew_any (sd1 sd) W)
  generalize hs1 : sd1 sd = s1 at *
  go_enter Try.func11, Try.ntmps11
  go_wp2_with (go_at_call 21; refine (HN.out _).mono ?_; rintro e w1 ⟨rfl, hR, hg⟩)
  go_ret
  rw [← hs1, World.size_alloc] at hR
  exact ⟨_, _, _, _, rfl, rj_made hn hR hg⟩
end Go.Proofs.Ytpjmhiokhoplmaa
