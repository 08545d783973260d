/- What the statements of layer 8 share, over the contracts of package slru: each call from where a statement stands. Conditions: the contracts. -/
import Derived.Test.YtedfhikmlicbgaaSlruCon
import Derived.Test.YtedfhikmlicbgaaParts
import Derived.Test.YtedfhikmlicbgaaOps8
import Derived.Test.YtedfhikmlicbgaaRangeKit
import Derived.Test.YtedfhikmlicbgaaStrRow
namespace Go.Proofs.Ytedfhikmlicbgaa
open Go.RowKit Go.Shelf
variable {Ls : World → Nat → (Nat → Prop) → Sr → Prop}

theorem i64_lit (a : Int) (h : -9223372036854775808 ≤ a ∧ a < 9223372036854775808 := by decide) : I64 a := h
/-- The list as a part. -/
def lsP (L : SlruLib Ls) (b : Nat) (own : Nat → Prop) (st : Sr) : Part := ⟨own, fun w => Ls w b own st, fun _ _ h hs => L.keep h hs⟩
section
variable {w0 w w' : World} {b : Nat} {own own' : Nat → Prop} {st st' : Sr} {R : Part}
theorem Law.ls {L : SlruLib Ls} (H : Law w0 w ((lsP L b own st).and R)) : Ls w b own st := H.q.1
theorem Law.good {L : SlruLib Ls} (H : Law w0 w ((lsP L b own st).and R)) : GoodR st := L.good H.q.1
theorem Law.turned {L : SlruLib Ls} (H : Law w0 w ((lsP L b own st).and R)) (h : Ls w' b own' st') (hg : Gr own w w') (hgr : Grew w own own') : Law w0 w' ((lsP L b own' st').and R) :=
  H.turn (A' := lsP L b own' st') h (fun k hk => L.lt h k hk) hg hgr
theorem new_is (L : SlruLib Ls) (H : Law w0 w R) (most : Int) (hm : I64 most) : Calls Try.prog 11 #[.int .i64 most] w fun e w' => ∃ b own, e = .returned (.pointer (some ⟨b, 0, none⟩)) ∧ Law w0 w' ((lsP L b own (freshR most)).and R) :=
  (L.new most hm w).mono fun _ _ ⟨b, own, h1, h2, h3, h4⟩ => ⟨b, own, h1, H.new (A := lsP L b own (freshR most)) h4 h3 fun k hk => ⟨h2 k hk, L.lt h3 k hk⟩⟩
theorem add_is (L : SlruLib Ls) (H : Law w0 w ((lsP L b own st).and R)) (hn : (allR st).length < maxLen) (s : ByteArray) (hs : s.size ≤ maxLen) (e : Int) (t : Sr) (he : addErr st s = e) (ht : addR st s = t) :
    Calls Try.prog 12 #[.pointer (some ⟨b, 0, none⟩), .string s] w fun en w' => en = .returned (.int .i64 e) ∧ ∃ own', Law w0 w' ((lsP L b own' t).and R) :=
  (L.add H.ls hn s hs).mono fun _ _ ⟨h1, own', h2, h3, h4⟩ => ⟨by rw [h1, he], own', by rw [← ht]; exact H.turned h2 h3 h4⟩
theorem hit_is (L : SlruLib Ls) (H : Law w0 w ((lsP L b own st).and R)) (hn : (allR st).length ≤ maxLen) (s : ByteArray) (hs : s.size ≤ maxLen) (e : Int) (t : Sr) (he : remErr st s = e) (ht : hitR st s = t) :
    Calls Try.prog 14 #[.pointer (some ⟨b, 0, none⟩), .string s] w fun en w' => en = .returned (.int .i64 e) ∧ ∃ own', Law w0 w' ((lsP L b own' t).and R) :=
  (L.hit H.ls hn s hs).mono fun _ _ ⟨h1, own', h2, h3, h4⟩ => ⟨by rw [h1, he], own', by rw [← ht]; exact H.turned h2 h3 h4⟩
theorem remove_is (L : SlruLib Ls) (H : Law w0 w ((lsP L b own st).and R)) (hn : (allR st).length ≤ maxLen) (s : ByteArray) (hs : s.size ≤ maxLen) (e : Int) (t : Sr) (he : remErr st s = e) (ht : remR st s = t) :
    Calls Try.prog 16 #[.pointer (some ⟨b, 0, none⟩), .string s] w fun en w' => en = .returned (.int .i64 e) ∧ ∃ own', Law w0 w' ((lsP L b own' t).and R) :=
  (L.remove H.ls hn s hs).mono fun _ _ ⟨h1, own', h2, h3, h4⟩ => ⟨by rw [h1, he], own', by rw [← ht]; exact H.turned h2 h3 h4⟩
theorem victim_is (L : SlruLib Ls) (H : Law w0 w ((lsP L b own st).and R)) (hn : (allR st).length ≤ maxLen) (s : ByteArray) (hs : s.size ≤ maxLen) (x : ByteArray) (q : Bool) (hx : (vicR st s).getD ⟨#[]⟩ = x) (hq : (vicR st s).isSome = q) :
    Calls Try.prog 18 #[.pointer (some ⟨b, 0, none⟩), .string s] w fun en w' => en = .returned (.tuple #[.string x, .bool q]) ∧ Law w0 w' ((lsP L b own st).and R) :=
  (L.victim H.ls hn s hs).mono fun _ _ ⟨h1, _, h3⟩ => ⟨by rw [h1, hx, hq], H.step h3⟩
theorem len_is (L : SlruLib Ls) (H : Law w0 w ((lsP L b own st).and R)) (hn : (allR st).length ≤ maxLen) (n : Int) (he : ((allR st).length : Int) = n) :
    Calls Try.prog 23 #[.pointer (some ⟨b, 0, none⟩)] w fun en w' => en = .returned (.int .i64 n) ∧ Law w0 w' ((lsP L b own st).and R) :=
  (L.len H.ls hn).mono fun _ _ ⟨h1, _, h3⟩ => ⟨by rw [h1, he], H.step h3⟩
theorem prot_is (L : SlruLib Ls) (H : Law w0 w ((lsP L b own st).and R)) (hn : (allR st).length ≤ maxLen) (n : Int) (he : (st.safe.length : Int) = n) :
    Calls Try.prog 24 #[.pointer (some ⟨b, 0, none⟩)] w fun en w' => en = .returned (.int .i64 n) ∧ Law w0 w' ((lsP L b own st).and R) :=
  (L.prot H.ls hn).mono fun _ _ ⟨h1, _, h3⟩ => ⟨by rw [h1, he], H.step h3⟩
end
/-- A list's keys in a slice of the statement's own. -/
abbrev keysP (n0 : Nat) (v : Value) (xs : List ByteArray) : Part := rowP n0 9 1 v xs.length (strV xs)

set_option maxHeartbeats 2000000 in
theorem awake_any (L : SlruLib Ls) (w : World) : Calls Try.prog 9 #[] w fun e w' => e = .returned (.bool true) ∧ Below w.heap.size w w' := by
  have H0 := Law.start w
  have m0 : (allR (freshR 1)).length < maxLen := by decide
  have m1 : (allR ⟨1, [⟨#[97]⟩], []⟩).length < maxLen := by decide
  have m2 : (allR ⟨1, [⟨#[97]⟩, ⟨#[98]⟩], []⟩).length ≤ maxLen := by decide
  have m3 : (allR ⟨1, [⟨#[98]⟩], [⟨#[97]⟩]⟩).length ≤ maxLen := by decide
  have hsz : (⟨#[97]⟩ : ByteArray).size ≤ maxLen ∧ (⟨#[98]⟩ : ByteArray).size ≤ maxLen ∧ (⟨#[]⟩ : ByteArray).size ≤ maxLen := by decide
  have K1 := hide (show addErr (freshR 1) ⟨#[97]⟩ = 0 ∧ addR (freshR 1) ⟨#[97]⟩ = ⟨1, [⟨#[97]⟩], []⟩ from ⟨rfl, rfl⟩)
  have K2 := hide (show addErr ⟨1, [⟨#[97]⟩], []⟩ ⟨#[98]⟩ = 0 ∧ addR ⟨1, [⟨#[97]⟩], []⟩ ⟨#[98]⟩ = ⟨1, [⟨#[97]⟩, ⟨#[98]⟩], []⟩ from ⟨rfl, rfl⟩)
  have K3 := hide (show remErr ⟨1, [⟨#[97]⟩, ⟨#[98]⟩], []⟩ ⟨#[97]⟩ = 0 ∧ hitR ⟨1, [⟨#[97]⟩, ⟨#[98]⟩], []⟩ ⟨#[97]⟩ = ⟨1, [⟨#[98]⟩], [⟨#[97]⟩]⟩ from ⟨rfl, rfl⟩)
  have K4 := hide (show (vicR ⟨1, [⟨#[98]⟩], [⟨#[97]⟩]⟩ ⟨#[]⟩).getD ⟨#[]⟩ = ⟨#[98]⟩ ∧ (vicR ⟨1, [⟨#[98]⟩], [⟨#[97]⟩]⟩ ⟨#[]⟩).isSome = true from ⟨rfl, rfl⟩)
  go_enter Try.func9, Try.ntmps9
  go_wp2_with (first
    | (go_at_call 11; refine (new_is L H0 1 (i64_lit _)).mono ?_; clear H0; rintro e w1 ⟨b, own, rfl, H⟩)
    | (go_at_call 12; have t := K1; clear t; refine (add_is L H m0 _ hsz.1 0 _ K1.out.1 K1.out.2).mono ?_; clear H K1; rintro e w2 ⟨rfl, own, H⟩)
    | (go_at_call 12; have t := K2; clear t; refine (add_is L H m1 _ hsz.2.1 0 _ K2.out.1 K2.out.2).mono ?_; clear H K2; rintro e w3 ⟨rfl, own, H⟩)
    | (go_at_call 14; refine (hit_is L H m2 _ hsz.1 0 _ K3.out.1 K3.out.2).mono ?_; clear H K3; rintro e w4 ⟨rfl, own, H⟩)
    | (go_at_call 18; refine (victim_is L H m3 _ hsz.2.2 _ _ K4.out.1 K4.out.2).mono ?_; clear H K4; rintro e w5 ⟨rfl, H⟩)
    | (go_at_call 23; refine (len_is L H m3 2 rfl).mono ?_; clear H; rintro e w6 ⟨rfl, H⟩)
    | (go_at_call 24; refine (prot_is L H m3 1 rfl).mono ?_; clear H; rintro e w7 ⟨rfl, H⟩; have hB := H.below))
  go_ret
  exact ⟨rfl, hB⟩
/-- Few and short. -/
def Short (os : List Op8) : Prop := os.length ≤ 200 ∧ ∀ o ∈ os, o.key.size ≤ 300
set_option maxHeartbeats 2000000 in
theorem short_any {w : World} {a : Option Addr} {len cap : Nat} {os : List Op8} (h : OpsAt w a len cap os) :
    Calls Try.prog 10 #[.slice a len cap] w fun e w' => (∃ q, e = .returned (.bool q) ∧ (q = true ↔ Short os)) ∧ w.grownBy w' none := by
  have hl := h.len_
  have hm : len ≤ maxLen := h.2
  unfold maxLen at hm
  by_cases h200 : len ≤ 200
  · have hli : (len : Int) ≤ 200 := by omega
    go_enter Try.func10, Try.ntmps10
    go_wp2
    go_loopw [3] (fun i wr => ∃ k : Nat, k ≤ len ∧ i = .int .i64 k ∧ (∀ o ∈ os.take k, o.key.size ≤ 300) ∧ w.grownBy wr none) (fun i _ => len - (intOf i).toNat)
    case atStart => exact ⟨0, Nat.zero_le _, rfl, fun o ho => by simp at ho, gr_refl _ _⟩
    case round =>
      obtain ⟨k, hk, rfl, hall, hg⟩ := hrel
      by_cases hlt : k < len
      · obtain ⟨ca, off, rfl, hcell, hok⟩ := h.at k (by omega)
        have c1 := (hcell.on (Nat.le_refl _) (below_gr hg)).key
        have hki : (k : Int) < (len : Int) := by omega
        have hks := hok.key
        unfold maxLen at hks
        by_cases h3 : os[k].key.size ≤ 300
        · have h3i : (os[k].key.size : Int) ≤ 300 := by omega
          have HA : Hid (∀ o ∈ os.take (k + 1), o.key.size ≤ 300) := by
            rw [List.take_succ_eq_append_getElem (by omega)]
            intro o ho
            rcases List.mem_append.1 ho with ho | ho
            · exact hall o ho
            · rw [List.mem_singleton] at ho
              rw [ho]
              exact h3
          clear hall
          generalize os[k].key = s at *
          go_wp2
          go_roundw
          case rel => exact ⟨k + 1, by omega, by go_num, HA.out, hg⟩
          case measure => simp [intOf]; omega
        · have h3i : 300 < (os[k].key.size : Int) := by omega
          have HN : Hid (¬ Short os) := fun hS => h3 (hS.2 _ (List.getElem_mem _))
          clear hall
          generalize os[k].key = s at *
          go_wp2
          go_ret
          exact ⟨⟨false, rfl, ⟨(fun e => by cases e), fun hS => (HN.out hS).elim⟩⟩, hg⟩
      · obtain rfl : k = len := by omega
        have HS : Hid (Short os) := ⟨by omega, fun o ho => hall o (by rw [← hl, List.take_length]; exact ho)⟩
        clear hall
        go_wp2
        go_ret
        exact ⟨⟨true, rfl, ⟨fun _ => HS.out, fun _ => rfl⟩⟩, hg⟩
  · have hli : 200 < (len : Int) := by omega
    go_enter Try.func10, Try.ntmps10
    go_wp2
    go_ret
    exact ⟨⟨false, rfl, ⟨(fun e => by cases e), fun hS => by have := hS.1; omega⟩⟩, gr_refl _ _⟩
end Go.Proofs.Ytedfhikmlicbgaa
