/- Where package table looks for a text. Conditions: at most 20000 buckets, texts of at most 300 bytes. The table in memory: its head, two rows of buckets, and their entries; New, Len, Buckets, Left, grow. Conditions: none. -/
import Derived.Test.YtkfeafmpaodagaaGreatDoorG20Joined
import Derived.Test.YtkfeafmpaodagaaGreatDoorG05Joined
namespace Go.Proofs.YtkfeafmpaodagaaGreatDoor
open Go.RowKit

theorem below_pl (sd n : Nat) (k : ByteArray) (hn : 0 < n) : belowN (ofN sd k.data.toList) (n : Int) = ((plN sd n k : Nat) : Int) := by
  unfold belowN plN
  rw [if_neg (by omega)]
  rfl
theorem head4 {w : World} {b : Nat} {t : TypeId} {x y z u : Value} (h : w.heap[b]? = some (.cells #[x, y, z, u] t (0, 0))) : w.cell? ⟨b, 0, none⟩ = some x ∧ w.cell? ⟨b, 1, none⟩ = some y ∧ w.cell? ⟨b, 2, none⟩ = some z ∧ w.cell? ⟨b, 3, none⟩ = some u := by
  simp [World.cell?, h]
set_option maxRecDepth 100000 in
set_option maxHeartbeats 2000000 in
theorem place_old {w : World} {b sd N left gE cB cE : Nat} {aB : Option Addr} {many : Int} (hw : w.heap[b]? = some (.cells #[.int .u64 sd, .int .i64 many, .slice aB N cB, .slice (some ⟨gE, 0, none⟩) left cE] 98 (0, 0))) (hsd : sd < 18446744073709551616) (hN : 8 ≤ N) (hN2 : N ≤ 20000) (k : ByteArray) (hk : k.size ≤ 140737488351232) (hp : plN sd (N / 2) k < left) :
    Calls Tryz.prog 121 #[.pointer (some ⟨b, 0, none⟩), .string k] w fun e w' => e = .returned (.pointer (some ⟨gE, plN sd (N / 2) k, none⟩)) ∧ w.grownBy w' none := by
  obtain ⟨c0, -, c2, c3⟩ := head4 hw
  obtain ⟨h, hh⟩ : ∃ h, ofN sd k.data.toList = h := ⟨_, rfl⟩
  have hlt : h < 18446744073709551616 := by rw [← hh]; exact of_lt _ _
  have HB := hide (below_pl sd (N / 2) k (by omega))
  rw [hh] at HB
  have HO := hide (fun W => of_any sd hsd k (by omega) W)
  rw [hh] at HO
  have hpN : plN sd (N / 2) k < N / 2 := Nat.mod_lt _ (by omega)
  obtain ⟨p, hpp⟩ : ∃ p, plN sd (N / 2) k = p := ⟨_, rfl⟩
  rw [hpp] at hp HB hpN ⊢
  have hpi : (p : Int) < (left : Int) := by omega
  have HL := hide (fun W => below_any h hlt ((N / 2 : Nat) : Int) (by omega) (by omega) W)
  rw [HB.out] at HL
  clear hw hh hpp HB
  go_enter Tryz.func121, Tryz.ntmps121
  go_wp2_with (first
    | (go_at_call 155; refine (HO.out _).mono ?_; rintro e w1 ⟨rfl, rfl⟩)
    | (go_at_call 156; refine (HL.out _).mono ?_; rintro e w1 ⟨rfl, rfl⟩))
  go_ret
  exact ⟨rfl, gr_refl _ _⟩
set_option maxRecDepth 100000 in
set_option maxHeartbeats 2000000 in
theorem place_new {w : World} {b sd N left gB cB cE : Nat} {aE : Option Addr} {many : Int} (hw : w.heap[b]? = some (.cells #[.int .u64 sd, .int .i64 many, .slice (some ⟨gB, 0, none⟩) N cB, .slice aE left cE] 98 (0, 0))) (hsd : sd < 18446744073709551616) (hN : 8 ≤ N) (hN2 : N ≤ 20000) (k : ByteArray) (hk : k.size ≤ 140737488351232) (hp : left ≤ plN sd (N / 2) k) :
    Calls Tryz.prog 121 #[.pointer (some ⟨b, 0, none⟩), .string k] w fun e w' => e = .returned (.pointer (some ⟨gB, plN sd N k, none⟩)) ∧ w.grownBy w' none := by
  obtain ⟨c0, -, c2, c3⟩ := head4 hw
  have c2' : w.drew.cell? ⟨b, 2, none⟩ = some (.slice (some ⟨gB, 0, none⟩) N cB) := c2
  obtain ⟨h, hh⟩ : ∃ h, ofN sd k.data.toList = h := ⟨_, rfl⟩
  have hlt : h < 18446744073709551616 := by rw [← hh]; exact of_lt _ _
  have HB := hide (below_pl sd (N / 2) k (by omega))
  have HB2 := hide (below_pl sd N k (by omega))
  rw [hh] at HB HB2
  have HO := hide (fun W => of_any sd hsd k (by omega) W)
  rw [hh] at HO
  have hpN : plN sd (N / 2) k < N / 2 := Nat.mod_lt _ (by omega)
  have hqN : plN sd N k < N := Nat.mod_lt _ (by omega)
  obtain ⟨p, hpp⟩ : ∃ p, plN sd (N / 2) k = p := ⟨_, rfl⟩
  obtain ⟨q, hqq⟩ : ∃ q, plN sd N k = q := ⟨_, rfl⟩
  rw [hpp] at hp HB hpN
  rw [hqq] at hqN HB2 ⊢
  have hpi : ¬ (p : Int) < (left : Int) := by omega
  have hqi : (q : Int) < (N : Int) := by omega
  have hqd : decide (q < N) = true := decide_eq_true hqN
  have HL := hide (fun W => below_any h hlt ((N / 2 : Nat) : Int) (by omega) (by omega) W)
  have HL2 := hide (fun W => below_any h hlt (N : Int) (by omega) (by omega) W)
  rw [HB.out] at HL
  rw [HB2.out] at HL2
  clear hw hh hpp hqq HB HB2
  go_enter Tryz.func121, Tryz.ntmps121
  go_upto_region 5 with (first
    | (go_at_call 155; refine (HO.out _).mono ?_; rintro e w1 ⟨rfl, rfl⟩)
    | (go_at_call 156; refine (HL.out _).mono ?_; rintro e w1 ⟨rfl, rfl⟩))
  go_quiet ((go_at_call 156; refine Calls.quiet_of_same ((HL2.out _).mono fun e w' h => ⟨h.1, h.2.symm⟩)))
  go_wp2
  go_ret
  exact ⟨rfl, ⟨rfl, rfl, rfl, Nat.le_refl _, fun _ _ _ => rfl⟩⟩
end Go.Proofs.YtkfeafmpaodagaaGreatDoor

namespace Go.Proofs.YtkfeafmpaodagaaGreatDoor
open Go.RowKit

abbrev headT (b sd many : Nat) (vB vE : Value) : Part := boxP b (.cells #[.int .u64 sd, .int .i64 (many : Nat), vB, vE] 98)
def enF (f : Nat → Value) (B : Nat → List Kv) (i : Nat) : Part := enP (f i) (B i)
/-- The table at block b. -/
def tabP (b sd many : Nat) (vB vE : Value) (N left : Nat) (bv ev : Nat → Value) (B E : Nat → List Kv) : Part :=
  (headT b sd many vB vE).and ((arP vB N bv).and ((manyP (· < N) (enF bv B)).and ((arP vE left ev).and ((manyP (· < left) (enF ev E)).and Part.emp))))
theorem toE_q {w : World} {A B C D E R : Part} (h : (A.and (B.and (C.and (D.and (E.and R))))).q w) : (D.and (E.and (A.and (B.and (C.and R))))).q w := by
  obtain ⟨hA, ⟨hB, ⟨hC, ⟨hD, ⟨hE, hR, hER⟩, hD2⟩, hC2⟩, hB2⟩, hA2⟩ := h
  refine ⟨hD, ⟨hE, ⟨hA, ⟨hB, ⟨hC, hR, ?_⟩, ?_⟩, ?_⟩, ?_⟩, ?_⟩
  · exact fun k h1 h2 => hC2 k h1 (.inr (.inr h2))
  · rintro k h1 (h2 | h2)
    · exact hB2 k h1 (.inl h2)
    · exact hB2 k h1 (.inr (.inr (.inr h2)))
  · rintro k h1 (h2 | h2 | h2)
    · exact hA2 k h1 (.inl h2)
    · exact hA2 k h1 (.inr (.inl h2))
    · exact hA2 k h1 (.inr (.inr (.inr (.inr h2))))
  · rintro k h1 (h2 | h2 | h2 | h2)
    · exact hA2 k h2 (.inr (.inr (.inr (.inl h1))))
    · exact hB2 k h2 (.inr (.inr (.inl h1)))
    · exact hC2 k h2 (.inr (.inl h1))
    · exact hER k h1 h2
  · rintro k h1 (h2 | h2 | h2 | h2 | h2)
    · exact hD2 k h1 (.inl h2)
    · exact hA2 k h2 (.inr (.inr (.inl h1)))
    · exact hB2 k h2 (.inr (.inl h1))
    · exact hC2 k h2 (.inl h1)
    · exact hD2 k h1 (.inr h2)
theorem fromE_q {w : World} {A B C D E R : Part} (h : (D.and (E.and (A.and (B.and (C.and R))))).q w) : (A.and (B.and (C.and (D.and (E.and R))))).q w := by
  obtain ⟨hD, ⟨hE, ⟨hA, ⟨hB, ⟨hC, hR, hCR⟩, hB2⟩, hA2⟩, hE2⟩, hD2⟩ := h
  refine ⟨hA, ⟨hB, ⟨hC, ⟨hD, ⟨hE, hR, ?_⟩, ?_⟩, ?_⟩, ?_⟩, ?_⟩
  · exact fun k h1 h2 => hE2 k h1 (.inr (.inr (.inr h2)))
  · rintro k h1 (h2 | h2)
    · exact hD2 k h1 (.inl h2)
    · exact hD2 k h1 (.inr (.inr (.inr (.inr h2))))
  · rintro k h1 (h2 | h2 | h2)
    · exact hD2 k h2 (.inr (.inr (.inr (.inl h1))))
    · exact hE2 k h2 (.inr (.inr (.inl h1)))
    · exact hCR k h1 h2
  · rintro k h1 (h2 | h2 | h2 | h2)
    · exact hB2 k h1 (.inl h2)
    · exact hD2 k h2 (.inr (.inr (.inl h1)))
    · exact hE2 k h2 (.inr (.inl h1))
    · exact hB2 k h1 (.inr h2)
  · rintro k h1 (h2 | h2 | h2 | h2 | h2)
    · exact hA2 k h1 (.inl h2)
    · exact hA2 k h1 (.inr (.inl h2))
    · exact hD2 k h2 (.inr (.inl h1))
    · exact hE2 k h2 (.inl h1)
    · exact hA2 k h1 (.inr (.inr h2))
section
variable {F : Nat → Prop} {w0 w : World} {A B C D E R : Part}
theorem LawF.toE (H : LawF F w0 w (A.and (B.and (C.and (D.and (E.and R)))))) : LawF F w0 w (D.and (E.and (A.and (B.and (C.and R))))) := H.weak (fun h => toE_q h) fun k hk => by
  rcases hk with h | h | h | h | h | h
  · exact .inr (.inr (.inr (.inl h)))
  · exact .inr (.inr (.inr (.inr (.inl h))))
  · exact .inl h
  · exact .inr (.inl h)
  · exact .inr (.inr (.inl h))
  · exact .inr (.inr (.inr (.inr (.inr h))))
theorem LawF.fromE (H : LawF F w0 w (D.and (E.and (A.and (B.and (C.and R)))))) : LawF F w0 w (A.and (B.and (C.and (D.and (E.and R))))) := H.weak (fun h => fromE_q h) fun k hk => by
  rcases hk with h | h | h | h | h | h
  · exact .inr (.inr (.inl h))
  · exact .inr (.inr (.inr (.inl h)))
  · exact .inr (.inr (.inr (.inr (.inl h))))
  · exact .inl h
  · exact .inr (.inl h)
  · exact .inr (.inr (.inr (.inr (.inr h))))
end
section
variable {F : Nat → Prop} {w0 w : World} {R : Part} {v u : Value} {n i : Nat} {f : Nat → Value} {B : Nat → List Kv} {L : List Kv}
/-- One bucket of a row of them. -/
theorem LawF.sel (H : LawF F w0 w ((arP v n f).and ((manyP (· < n) (enF f B)).and R))) (hi : i < n) : LawF F w0 w ((arP v n f).and ((enP (f i) (B i)).and ((manyP (fun j => j < n ∧ j ≠ i) (enF f B)).and R))) := (H.rot.pick i hi).rin.rot
theorem LawF.unsel (H : LawF F w0 w ((arP v n (updF f i u)).and ((enP u L).and ((manyP (fun j => j < n ∧ j ≠ i) (enF f B)).and R)))) : LawF F w0 w ((arP v n (updF f i u)).and ((manyP (· < n) (enF (updF f i u) (updF B i L))).and R)) := by
  have H1 := (H.rot.rin.back).rot
  have e : turnAt (enF f B) i (enP u L) = enF (updF f i u) (updF B i L) := by
    funext j
    unfold turnAt enF updF
    by_cases h : j = i
    · rw [if_pos h, if_pos h, if_pos h]
    · rw [if_neg h, if_neg h, if_neg h]
  rw [e] at H1
  exact H1
end
/-- What a table has, in whatever buckets. -/
structure TabL (F : Nat → Prop) (w0 w : World) (b : Nat) (st : Ts) (sd : Nat) (vB vE : Value) (bv ev : Nat → Value) (B E : Nat → List Kv) : Prop where
  law : LawF F w0 w (tabP b sd st.l.length vB vE st.buckets st.left bv ev B E)
  fit : FitT sd st.buckets st.left B E st.l
  seed : sd < 18446744073709551616
  short : ∀ p ∈ st.l, p.1.size ≤ 140737488351232
def Tab (F : Nat → Prop) (w0 w : World) (b : Nat) (st : Ts) : Prop := ∃ sd vB vE bv ev B E, TabL F w0 w b st sd vB vE bv ev B E
def Tb0 (w : World) (b : Nat) (own : Nat → Prop) (st : Ts) : Prop :=
  ∃ sd vB vE bv ev B E, own = (tabP b sd st.l.length vB vE st.buckets st.left bv ev B E).own ∧ (tabP b sd st.l.length vB vE st.buckets st.left bv ev B E).q w ∧ (∀ k, own k → k < w.heap.size) ∧ FitT sd st.buckets st.left B E st.l ∧ sd < 18446744073709551616 ∧ (∀ p ∈ st.l, p.1.size ≤ 140737488351232) ∧ GoodT st
theorem Tb0.tab {w : World} {b : Nat} {own : Nat → Prop} {st : Ts} (h : Tb0 w b own st) : Tab own w w b st := by
  obtain ⟨sd, vB, vE, bv, ev, B, E, rfl, h2, h3, h4, h5, h6, _⟩ := h
  exact ⟨sd, vB, vE, bv, ev, B, E, LawF.start h2 h3, h4, h5, h6⟩
theorem Tab.done {F : Nat → Prop} {w0 w : World} {b : Nat} {st : Ts} (h : Tab F w0 w b st) (G : GoodT st) : ∃ own', Tb0 w b own' st ∧ Gr F w0 w ∧ Grew w0 F own' := by
  obtain ⟨sd, vB, vE, bv, ev, B, E, L, h4, h5, h6⟩ := h
  exact ⟨_, ⟨sd, vB, vE, bv, ev, B, E, rfl, L.q, fun k hk => (L.lt k hk).1, h4, h5, h6, G⟩, L.gr, L.grew⟩
theorem Tab.step {F : Nat → Prop} {w0 w w' : World} {b : Nat} {st : Ts} (h : Tab F w0 w b st) (hg : w.grownBy w' none) : Tab F w0 w' b st := by
  obtain ⟨sd, vB, vE, bv, ev, B, E, L, h4, h5, h6⟩ := h
  exact ⟨sd, vB, vE, bv, ev, B, E, L.step hg, h4, h5, h6⟩
theorem refs_rep (n : Nat) (x : Value) : List.replicate n x = refs n (fun _ => x) := by
  unfold refs
  apply List.ext_getElem?
  intro i
  by_cases h : i < n <;> simp [h]
/-- Empty buckets. -/
theorem make_buckets (w : World) (n : Nat) (hn : n ≤ 100000) : ∃ w', (Instr.makeSlice 96 (.int .i64 (n : Int)) (.int .i64 (n : Int))).run Tryz.prog w = .ok (.slice (some ⟨w.heap.size, 0, none⟩) n n) w' ∧ w'.ownsRow 0 181 1 (.slice (some ⟨w.heap.size, 0, none⟩) n n) n (refs n fun _ => .slice none 0 0) ∧ w.grownBy w' none := by
  obtain ⟨i0, hi0, hz0, hz1, hz2⟩ := info_parts info_bucket
  obtain ⟨w', h1, h2, h3⟩ := run_make_full (P := Tryz.prog) w 0 96 181 i0 (.slice none 0 0) 1 Tryz.underlying96 hi0 hz0 hz1 .i64 .i64 n (by rw [hz2]; omega) (by unfold maxLen; omega) (Nat.zero_le _)
  refine ⟨w', h1, ?_, h3⟩
  have e : (Value.slice none 0 0).cells = #[.slice none 0 0] := rfl
  rw [e, Nat.mul_one, toList_madeCells_one, refs_rep] at h2
  exact h2
theorem LawF.made {F : Nat → Prop} {w0 w w' : World} {R : Part} {n : Nat} (H : LawF F w0 w R) (hown : w'.ownsRow 0 181 1 (.slice (some ⟨w.heap.size, 0, none⟩) n n) n (refs n fun _ => .slice none 0 0)) (hg : w.grownBy w' none) : LawF F w0 w' ((arP (.slice (some ⟨w.heap.size, 0, none⟩) n n) n fun _ => .slice none 0 0).and ((manyP (· < n) (enF (fun _ => .slice none 0 0) fun _ => [])).and R)) := by
  have H1 := H.many0 (I := (· < n)) (A := enF (fun _ => .slice none 0 0) fun _ => []) (fun i _ => World.ownsRow_nil _ _ _ _) (fun i k hk => by cases hk)
  refine H1.new hg hown fun k hk => ?_
  have hk' : w.heap.size = k := by
    have : some w.heap.size = some k := hk
    exact Option.some.inj this
  subst hk'
  exact ⟨Nat.le_refl _, (own_at hown rfl).2.1⟩
set_option maxRecDepth 100000 in
set_option maxHeartbeats 2000000 in
theorem tnew_any (sd : Nat) (hsd : sd < 18446744073709551616) (w : World) : Calls Tryz.prog 22 #[.int .u64 sd] w fun e w' => ∃ b own, e = .returned (.pointer (some ⟨b, 0, none⟩)) ∧ (∀ k, own k → w.heap.size ≤ k) ∧ Tb0 w' b own freshT ∧ w.grownBy w' none := by
  obtain ⟨w1, hr0, ho1, hg1⟩ := make_buckets w 8 (by decide)
  have hr1 : (Instr.makeSlice 96 (.int .i64 8) (.int .i64 8)).run Tryz.prog w = .ok (.slice (some ⟨w.heap.size, 0, none⟩) 8 8) w1 := hr0
  have L0 := (LawF.bare w).many0 (I := (· < 0)) (A := enF (fun _ => .slice none 0 0) fun _ => []) (fun i _ => World.ownsRow_nil _ _ _ _) (fun i k hk => by cases hk)
  have L1 := (L0.nil (n0 := 0) (e := 181) (size := 1)).made ho1 hg1
  have L2 := L1.box (.cells #[.int .u64 sd, .int .i64 0, .slice (some ⟨w.heap.size, 0, none⟩) 8 8, .slice none 0 0] 98)
  have HL := hide L2
  have hg2 := gr_trans hg1 (World.grownBy_alloc w1 (.cells #[.int .u64 sd, .int .i64 0, .slice (some ⟨w.heap.size, 0, none⟩) 8 8, .slice none 0 0] 98) none)
  clear L0 L1 L2 ho1 hg1 hr0
  go_enter Tryz.func22, Tryz.ntmps22
  go_wp2
  go_ret
  refine ⟨_, rfl, _, ?_, ⟨sd, _, _, _, _, _, _, rfl, HL.out.q, fun k hk => (HL.out.lt k hk).1, ⟨?_, fun i hi => absurd hi (Nat.not_lt_zero _), fun i _ p hp => (by cases hp)⟩, hsd, fun p hp => (by cases hp), good_freshT⟩, hg2⟩
  · intro k hk
    exact (HL.out.lt k hk).2.elim (fun h => h.elim) id
  · show (flatN 0 _ ++ flatN 8 _).Perm []
    rw [flat_none]
    exact List.Perm.refl _
section
variable {w : World} {b : Nat} {own : Nat → Prop} {st : Ts}
set_option maxHeartbeats 1000000 in
theorem tlen_any (h : Tb0 w b own st) : Calls Tryz.prog 114 #[.pointer (some ⟨b, 0, none⟩)] w fun e w' => e = .returned (.int .i64 st.l.length) ∧ w' = w := by
  obtain ⟨sd, vB, vE, bv, ev, B, E, L⟩ := h.tab
  obtain ⟨-, c1, -, -⟩ := head4 L.law.q.1
  clear L
  go_enter Tryz.func114, Tryz.ntmps114
  go_wp2
  go_ret
  exact ⟨rfl, rfl⟩
end
end Go.Proofs.YtkfeafmpaodagaaGreatDoor
