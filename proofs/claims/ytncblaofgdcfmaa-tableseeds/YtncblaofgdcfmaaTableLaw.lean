/- What the statements of layer 9 share, over the contracts of package table: each call from where a statement stands. Conditions: the contracts. -/
import Derived.Test.YtncblaofgdcfmaaTableCon
import Derived.Test.YtncblaofgdcfmaaParts
import Derived.Test.YtncblaofgdcfmaaOps9
import Derived.Test.YtncblaofgdcfmaaRangeKit
import Derived.Laws.IdiomStrings
namespace Go.Proofs.Ytncblaofgdcfmaa
open Go.RowKit Go.Shelf
variable {Tb : World → Nat → (Nat → Prop) → Ts → Prop}

theorem i64_lit (a : Int) (h : -9223372036854775808 ≤ a ∧ a < 9223372036854775808 := by decide) : I64 a := h
/-- The table as a part. -/
def tbP (L : TableLib Tb) (b : Nat) (own : Nat → Prop) (st : Ts) : Part := ⟨own, fun w => Tb w b own st, fun _ _ h hs => L.keep h hs⟩
section
variable {w0 w w' : World} {b : Nat} {own own' : Nat → Prop} {st st' : Ts} {R : Part}
theorem Law.tb {L : TableLib Tb} (H : Law w0 w ((tbP L b own st).and R)) : Tb w b own st := H.q.1
theorem Law.good {L : TableLib Tb} (H : Law w0 w ((tbP L b own st).and R)) : GoodT st := L.good H.q.1
theorem Law.turned {L : TableLib Tb} (H : Law w0 w ((tbP L b own st).and R)) (h : Tb w' b own' st') (hg : Gr own w w') (hgr : Grew w own own') : Law w0 w' ((tbP L b own' st').and R) :=
  H.turn (A' := tbP L b own' st') h (fun k hk => L.lt h k hk) hg hgr
theorem new_is (L : TableLib Tb) (H : Law w0 w R) (sd : Nat) (hd : sd < 18446744073709551616) : Calls Try.prog 10 #[.int .u64 sd] w fun e w' => ∃ b own, e = .returned (.pointer (some ⟨b, 0, none⟩)) ∧ Law w0 w' ((tbP L b own freshT).and R) :=
  (L.new sd hd w).mono fun _ _ ⟨b, own, h1, h2, h3, h4⟩ => ⟨b, own, h1, H.new (A := tbP L b own freshT) h4 h3 fun k hk => ⟨h2 k hk, L.lt h3 k hk⟩⟩
theorem put_is (L : TableLib Tb) (H : Law w0 w ((tbP L b own st).and R)) (hn : SmallT st 5000) (s : ByteArray) (hs : s.size ≤ 300) (v : Int) (hv : I64 v) (t : Ts) (ht : putT st s v = t) :
    Calls Try.prog 12 #[.pointer (some ⟨b, 0, none⟩), .string s, .int .i64 v] w fun en w' => (∃ x, en = .returned x) ∧ ∃ own', Law w0 w' ((tbP L b own' t).and R) :=
  (L.put H.tb hn s hs v hv).mono fun _ _ ⟨h1, own', h2, h3, h4⟩ => ⟨h1, own', by rw [← ht]; exact H.turned h2 h3 h4⟩
theorem get_is (L : TableLib Tb) (H : Law w0 w ((tbP L b own st).and R)) (hn : SmallT st 5000) (s : ByteArray) (hs : s.size ≤ 300) (x : Int) (q : Bool) (hx : (getL s st.l).getD 0 = x) (hq : hasT st s = q) :
    Calls Try.prog 14 #[.pointer (some ⟨b, 0, none⟩), .string s] w fun en w' => en = .returned (.tuple #[.int .i64 x, .bool q]) ∧ ∃ own', Law w0 w' ((tbP L b own' (stepT st)).and R) :=
  (L.get H.tb hn s hs).mono fun _ _ ⟨h1, own', h2, h3, h4⟩ => ⟨by rw [h1, hx, hq], own', H.turned h2 h3 h4⟩
theorem del_is (L : TableLib Tb) (H : Law w0 w ((tbP L b own st).and R)) (hn : SmallT st 5000) (s : ByteArray) (hs : s.size ≤ 300) (q : Bool) (hq : hasT st s = q) :
    Calls Try.prog 16 #[.pointer (some ⟨b, 0, none⟩), .string s] w fun en w' => en = .returned (.bool q) ∧ ∃ own', Law w0 w' ((tbP L b own' (delT st s)).and R) :=
  (L.delete H.tb hn s hs).mono fun _ _ ⟨h1, own', h2, h3, h4⟩ => ⟨by rw [h1, hq], own', H.turned h2 h3 h4⟩
theorem len_is (L : TableLib Tb) (H : Law w0 w ((tbP L b own st).and R)) (hn : SmallT st 5000) (n : Int) (he : (st.l.length : Int) = n) :
    Calls Try.prog 18 #[.pointer (some ⟨b, 0, none⟩)] w fun en w' => en = .returned (.int .i64 n) ∧ Law w0 w' ((tbP L b own st).and R) :=
  (L.len H.tb hn).mono fun _ _ ⟨h1, _, h3⟩ => ⟨by rw [h1, he], H.step h3⟩
theorem buckets_is (L : TableLib Tb) (H : Law w0 w ((tbP L b own st).and R)) (hn : SmallT st 5000) (n : Int) (he : (st.buckets : Int) = n) :
    Calls Try.prog 19 #[.pointer (some ⟨b, 0, none⟩)] w fun en w' => en = .returned (.int .i64 n) ∧ Law w0 w' ((tbP L b own st).and R) :=
  (L.buckets H.tb hn).mono fun _ _ ⟨h1, _, h3⟩ => ⟨by rw [h1, he], H.step h3⟩
theorem left_is (L : TableLib Tb) (H : Law w0 w ((tbP L b own st).and R)) (hn : SmallT st 5000) (n : Int) (he : (st.left : Int) = n) :
    Calls Try.prog 20 #[.pointer (some ⟨b, 0, none⟩)] w fun en w' => en = .returned (.int .i64 n) ∧ Law w0 w' ((tbP L b own st).and R) :=
  (L.left H.tb hn).mono fun _ _ ⟨h1, _, h3⟩ => ⟨by rw [h1, he], H.step h3⟩
end
theorem two_cells {w : World} {k : Nat} {t : TypeId} {x y : Value} (h : w.heap[k]? = some (.cells #[x, y] t (0, 0))) : w.cell? ⟨k, 0, none⟩ = some x ∧ w.cell? ⟨k, 1, none⟩ = some y := by
  simp [World.cell?, h]
theorem add_from (g j : Nat) : (⟨g, 0, none⟩ : Addr).add j = ⟨g, j, none⟩ := by unfold Addr.add; split <;> simp_all
/-- A text of a number. -/
def numK (n : Nat) : ByteArray := ⟨#[UInt8.ofNat (n / 100 % 100), UInt8.ofNat (n % 100)]⟩
theorem numK_size (n : Nat) : (numK n).size = 2 := rfl
set_option maxRecDepth 100000 in
set_option maxHeartbeats 2000000 in
theorem numbered_any (n : Nat) (hn : n < 10000) (w : World) : Calls Try.prog 23 #[.int .i64 n] w fun e w' => e = .returned (.string (numK n)) ∧ w.grownBy w' none := by
  obtain ⟨a, ha⟩ : ∃ a, n / 100 % 100 = a := ⟨_, rfl⟩
  obtain ⟨c, hc⟩ : ∃ c, n % 100 = c := ⟨_, rfl⟩
  obtain ⟨q, hq⟩ : ∃ q, n / 100 = q := ⟨_, rfl⟩
  have d1 : Int.tdiv (n : Int) 100 = (q : Int) := by rw [Int.tdiv_eq_ediv_of_nonneg (by omega)]; omega
  have d2 : Int.tmod (q : Int) 100 = (a : Int) := by rw [Int.tmod_eq_emod_of_nonneg (by omega)]; omega
  have d3 : Int.tmod (n : Int) 100 = (c : Int) := by rw [Int.tmod_eq_emod_of_nonneg (by omega)]; omega
  have a1 : a < 100 := by omega
  have c1 : c < 100 := by omega
  have HK : Hid (numK n = ⟨#[UInt8.ofNat a, UInt8.ofNat c]⟩) := by show _ = _; unfold numK; rw [ha, hc]
  have w1 : IntKind.i64.wrap (q : Int) = q := by rw [IntKind.wrap_i64]; omega
  have w2 : IntKind.u8.wrap (a : Int) = a := by rw [IntKind.wrap_u8]; omega
  have w3 : IntKind.u8.wrap (c : Int) = c := by rw [IntKind.wrap_u8]; omega
  clear ha hc hq
  have hcv : (convert 59 9 (.slice (some ⟨w.heap.size, 0, none⟩) 2 2)).run Try.prog (w.alloc (.cells #[.int .u8 a, .int .u8 c] 5)) = .ok (.string ⟨#[UInt8.ofNat a, UInt8.ofNat c]⟩) (w.alloc (.cells #[.int .u8 a, .int .u8 c] 5)) := by
    refine run_convert_bytes_back (P := Try.prog) _ 59 9 5 ⟨w.heap.size, 0, none⟩ 2 [UInt8.ofNat a, UInt8.ofNat c] Try.underlying59 Try.underlying5 Try.underlying9 (fun j hj => ?_)
    have h : (w.alloc (.cells #[.int .u8 a, .int .u8 c] 5)).heap[w.heap.size]? = some (.cells #[.int .u8 a, .int .u8 c] 5 (0, 0)) := World.alloc_heap_new w _
    have ea : (UInt8.ofNat a).toNat = a := by simp; omega
    have ec : (UInt8.ofNat c).toNat = c := by simp; omega
    match j, hj with
    | 0, _ => rw [add_from]; show _ = some (Value.int .u8 ((UInt8.ofNat a).toNat : Int)); rw [ea]; exact (two_cells h).1
    | 1, _ => rw [add_from]; show _ = some (Value.int .u8 ((UInt8.ofNat c).toNat : Int)); rw [ec]; exact (two_cells h).2
  go_enter Try.func23, Try.ntmps23
  go_wp2
  go_ret
  exact ⟨by rw [HK.out]; rfl, World.grownBy_alloc w _ none⟩
def playN : Nat → Ts
  | 0 => freshT
  | k + 1 => putT (playN k) (numK k) k
theorem small_playN : ∀ k, SmallT (playN k) k
  | 0 => smallT_fresh
  | k + 1 => smallT_put (small_playN k) _ _
theorem playN_17 : ((playN 17).buckets, (playN 17).left, (playN 17).l.length, getL (numK 3) (playN 17).l) = (16, 8, 17, some 3) := by kernel_rfl
set_option maxRecDepth 100000 in
set_option maxHeartbeats 4000000 in
theorem awake_any (L : TableLib Tb) (w : World) : Calls Try.prog 8 #[] w fun e w' => e = .returned (.bool true) ∧ Below w.heap.size w w' := by
  have H0 := Law.start w
  go_enter Try.func8, Try.ntmps8
  go_wp2_with (go_at_call 10; refine (new_is L H0 0 (by decide)).mono ?_; clear H0; rintro e w1 ⟨b, own, rfl, H⟩)
  go_loopw [2] (fun i wr => ∃ (k : Nat) (own : Nat → Prop), k ≤ 17 ∧ i = .int .i64 k ∧ Law w wr ((tbP L b own (playN k)).and Part.emp)) (fun i _ => 17 - (intOf i).toNat)
  case atStart => exact ⟨0, own, Nat.zero_le _, rfl, H⟩
  case round =>
    clear H
    obtain ⟨k, own, hk, rfl, H⟩ := hrel
    by_cases hlt : k < 17
    · have hki : (k : Int) < 17 := by omega
      have hsm : SmallT (playN k) 5000 := smallT_mono (small_playN k) (by omega)
      have hv : I64 (k : Int) := by constructor <;> omega
      go_wp2_with (first
        | (go_at_call 23; refine (numbered_any k (by omega) _).mono ?_; rintro e w2 ⟨rfl, hg⟩; replace H := H.step hg; clear hg)
        | (go_at_call 12; refine (put_is L H hsm (numK k) (by rw [numK_size]; decide) k hv _ rfl).mono ?_; rintro e w3 ⟨⟨x, rfl⟩, own3, H3⟩))
      go_roundw
      case rel => exact ⟨k + 1, own3, by omega, by go_num, H3⟩
      case measure => simp [intOf]; omega
    · obtain rfl : k = 17 := by omega
      have hsm : SmallT (playN 17) 5000 := smallT_mono (small_playN 17) (by omega)
      have hsm2 : SmallT (stepT (playN 17)) 5000 := smallT_step hsm
      have E := playN_17
      simp only [Prod.mk.injEq] at E
      obtain ⟨E1, E2, E3, E4⟩ := E
      have B1 : Hid (((playN 17).buckets : Int) = 16) := by show _ = _; rw [E1]; rfl
      have B2 : Hid (((playN 17).left : Int) = 8) := by show _ = _; rw [E2]; rfl
      have B3 : Hid (((stepT (playN 17)).left : Int) = 7) := by show _ = _; show (((playN 17).left - 1 : Nat) : Int) = 7; rw [E2]; rfl
      have B4 : Hid (((stepT (playN 17)).l.length : Int) = 17) := by show _ = _; show ((playN 17).l.length : Int) = 17; rw [E3]; rfl
      have B5 : Hid ((getL (numK 3) (playN 17).l).getD 0 = 3) := by show _ = _; rw [E4]; rfl
      have B6 : Hid (hasT (playN 17) (numK 3) = true) := by show _ = _; unfold hasT; rw [E4]; rfl
      generalize playN 17 = st at *
      clear E1 E2 E3 E4
      have k1 := hide True.intro
      go_wp2_with (first
        | (go_at_call 19; refine (buckets_is L H hsm _ B1.out).mono ?_; rintro e w4 ⟨rfl, H4⟩; replace H := H4; clear H4)
        | (go_at_call 20; have t := k1; clear t; refine (left_is L H hsm _ B2.out).mono ?_; rintro e w5 ⟨rfl, H5⟩; replace H := H5; clear H5 k1)
        | (go_at_call 23; refine (numbered_any 3 (by decide) _).mono ?_; rintro e w6 ⟨rfl, hg⟩; replace H := H.step hg; clear hg)
        | (go_at_call 14; refine (get_is L H hsm (numK 3) (by decide) _ _ B5.out B6.out).mono ?_; clear H; rintro e w7 ⟨rfl, own7, H⟩)
        | (go_at_call 20; refine (left_is L H hsm2 _ B3.out).mono ?_; rintro e w8 ⟨rfl, H8⟩; replace H := H8; clear H8)
        | (go_at_call 18; refine (len_is L H hsm2 _ B4.out).mono ?_; rintro e w9 ⟨rfl, H9⟩; have hB := H9.below))
      go_ret
      exact ⟨rfl, hB⟩
/-- Few and short. -/
def Short (os : List Op9) : Prop := os.length ≤ 300 ∧ ∀ o ∈ os, o.key.size ≤ 300
set_option maxHeartbeats 2000000 in
theorem short_any {w : World} {a : Option Addr} {len cap : Nat} {os : List Op9} (h : OpsAt w a len cap os) :
    Calls Try.prog 9 #[.slice a len cap] w fun e w' => (∃ q, e = .returned (.bool q) ∧ (q = true ↔ Short os)) ∧ w.grownBy w' none := by
  have hl := h.len_
  have hm : len ≤ maxLen := h.2
  unfold maxLen at hm
  by_cases h200 : len ≤ 300
  · have hli : (len : Int) ≤ 300 := by omega
    go_enter Try.func9, Try.ntmps9
    go_wp2
    go_loopw [3] (fun i wr => ∃ k : Nat, k ≤ len ∧ i = .int .i64 k ∧ (∀ o ∈ os.take k, o.key.size ≤ 300) ∧ w.grownBy wr none) (fun i _ => len - (intOf i).toNat)
    case atStart => exact ⟨0, Nat.zero_le _, rfl, fun o ho => by simp at ho, gr_refl _ _⟩
    case round =>
      obtain ⟨k, hk, rfl, hall, hg⟩ := hrel
      by_cases hlt : k < len
      · obtain ⟨ca, off, rfl, hcell, hok⟩ := h.at k (by omega)
        have c1 := (hcell.on (Nat.le_refl _) (below_gr hg)).key
        have hki : (k : Int) < (len : Int) := by omega
        have hks := hok.key
        unfold maxLen at hks
        by_cases h3 : os[k].key.size ≤ 300
        · have h3i : (os[k].key.size : Int) ≤ 300 := by omega
          have HA : Hid (∀ o ∈ os.take (k + 1), o.key.size ≤ 300) := by
            rw [List.take_succ_eq_append_getElem (by omega)]
            intro o ho
            rcases List.mem_append.1 ho with ho | ho
            · exact hall o ho
            · rw [List.mem_singleton] at ho
              rw [ho]
              exact h3
          clear hall
          generalize os[k].key = s at *
          go_wp2
          go_roundw
          case rel => exact ⟨k + 1, by omega, by go_num, HA.out, hg⟩
          case measure => simp [intOf]; omega
        · have h3i : 300 < (os[k].key.size : Int) := by omega
          have HN : Hid (¬ Short os) := fun hS => h3 (hS.2 _ (List.getElem_mem _))
          clear hall
          generalize os[k].key = s at *
          go_wp2
          go_ret
          exact ⟨⟨false, rfl, ⟨(fun e => by cases e), fun hS => (HN.out hS).elim⟩⟩, hg⟩
      · obtain rfl : k = len := by omega
        have HS : Hid (Short os) := ⟨by omega, fun o ho => hall o (by rw [← hl, List.take_length]; exact ho)⟩
        clear hall
        go_wp2
        go_ret
        exact ⟨⟨true, rfl, ⟨fun _ => HS.out, fun _ => rfl⟩⟩, hg⟩
  · have hli : 300 < (len : Int) := by omega
    go_enter Try.func9, Try.ntmps9
    go_wp2
    go_ret
    exact ⟨⟨false, rfl, ⟨(fun e => by cases e), fun hS => by have := hS.1; omega⟩⟩, gr_refl _ _⟩
end Go.Proofs.Ytncblaofgdcfmaa
