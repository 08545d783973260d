/- HashFirst returns true for every seed, every text and every two numbers, and writes nothing that was there. Conditions: none. -/
import Derived.Test.YtemhndjdfkkkhabHashAwake
import Derived.Test.YtemhndjdfkkkhabSeveral
import Derived.Test.YtemhndjdfkkkhabRangeKit
import Derived.Stop.RegionWithIn
import Derived.Deep.RegionHeld3
namespace Go.Proofs.Ytemhndjdfkkkhab
open Go.RowKit Go.Shelf
attribute [local go_sem] Oper.semAt_some

theorem info_u64 : (Try.prog.info? 22).map (fun i => (i.zero, i.size, i.bytes)) = some (some (.int .u64 0), 1, 8) := by kernel_rfl
/-- The hashes of these numbers, as cells. -/
def rowV (seed : Nat) (l : List UInt8) (pre : List Nat) : List Value := pre.map fun i => .int .u64 (sevN seed l i)
theorem rowV_len (seed : Nat) (l : List UInt8) (pre : List Nat) : (rowV seed l pre).length = pre.length := by unfold rowV; rw [List.length_map]

theorem boxes5 (w : World) (seed : Nat) (s : ByteArray) (many : Int) : ∃ W0, (((((w.alloc (.cells #[.bool false] 4)).alloc (.cells #[.slice none 0 0] 24)).alloc (.cells #[.int .u64 seed] 22)).alloc (.cells #[.string s] 9)).alloc (.cells #[.int .i64 many] 3)) = W0 ∧
    Boxed W0 w.heap.size 4 (.bool false) ∧ Boxed W0 (w.heap.size + 1) 24 (.slice none 0 0) ∧ Boxed W0 (w.heap.size + 1 + 1) 22 (.int .u64 seed) ∧ Boxed W0 (w.heap.size + 1 + 1 + 1) 9 (.string s) ∧ Boxed W0 (w.heap.size + 1 + 1 + 1 + 1) 3 (.int .i64 many) ∧ W0.heap.size = w.heap.size + 5 ∧ Below w.heap.size w W0 := by
  refine ⟨_, rfl, ?_⟩
  have b0 := Boxed.new w 4 (.bool false)
  have b1 := Boxed.new (w.alloc (.cells #[.bool false] 4)) 24 (.slice none 0 0)
  have b2 := Boxed.new ((w.alloc (.cells #[.bool false] 4)).alloc (.cells #[.slice none 0 0] 24)) 22 (.int .u64 seed)
  have b3 := Boxed.new (((w.alloc (.cells #[.bool false] 4)).alloc (.cells #[.slice none 0 0] 24)).alloc (.cells #[.int .u64 seed] 22)) 9 (.string s)
  have b4 := Boxed.new ((((w.alloc (.cells #[.bool false] 4)).alloc (.cells #[.slice none 0 0] 24)).alloc (.cells #[.int .u64 seed] 22)).alloc (.cells #[.string s] 9)) 3 (.int .i64 many)
  simp only [World.size_alloc] at b1 b2 b3 b4
  refine ⟨(((b0.alloc _).alloc _).alloc _).alloc _, ((b1.alloc _).alloc _).alloc _, (b2.alloc _).alloc _, b3.alloc _, b4, by simp only [World.size_alloc], ?_⟩
  exact (((((Below.refl _ w).alloc (Nat.le_refl _) _).alloc (by simp only [World.size_alloc]; omega) _).alloc (by simp only [World.size_alloc]; omega) _).alloc (by simp only [World.size_alloc]; omega) _).alloc (by simp only [World.size_alloc]; omega) _

theorem boxes4 (W : World) (seed : Nat) (s : ByteArray) (more : Int) : ∃ W4, ((((W.alloc (.cells #[.int .i64 0] 3)).alloc (.cells #[.int .u64 seed] 22)).alloc (.cells #[.string s] 9)).alloc (.cells #[.int .i64 more] 3)) = W4 ∧
    Boxed W4 W.heap.size 3 (.int .i64 0) ∧ Boxed W4 (W.heap.size + 1) 22 (.int .u64 seed) ∧ Boxed W4 (W.heap.size + 1 + 1) 9 (.string s) ∧ Boxed W4 (W.heap.size + 1 + 1 + 1) 3 (.int .i64 more) ∧ W4.heap.size = W.heap.size + 4 ∧
    (∀ B t v, Boxed W B t v → Boxed W4 B t v) ∧ (∀ base e size v n xs, W.ownsRow base e size v n xs → W4.ownsRow base e size v n xs) ∧ (∀ (k : Nat) (o : Obj), W.heap[k]? = some o → W4.heap[k]? = some o) ∧ Below W.heap.size W W4 := by
  refine ⟨_, rfl, ?_⟩
  have b0 := Boxed.new W 3 (.int .i64 0)
  have b1 := Boxed.new (W.alloc (.cells #[.int .i64 0] 3)) 22 (.int .u64 seed)
  have b2 := Boxed.new ((W.alloc (.cells #[.int .i64 0] 3)).alloc (.cells #[.int .u64 seed] 22)) 9 (.string s)
  have b3 := Boxed.new (((W.alloc (.cells #[.int .i64 0] 3)).alloc (.cells #[.int .u64 seed] 22)).alloc (.cells #[.string s] 9)) 3 (.int .i64 more)
  simp only [World.size_alloc] at b1 b2 b3
  have hB : Below W.heap.size W ((((W.alloc (.cells #[.int .i64 0] 3)).alloc (.cells #[.int .u64 seed] 22)).alloc (.cells #[.string s] 9)).alloc (.cells #[.int .i64 more] 3)) :=
    ((((Below.refl _ W).alloc (Nat.le_refl _) _).alloc (by simp only [World.size_alloc]; omega) _).alloc (by simp only [World.size_alloc]; omega) _).alloc (by simp only [World.size_alloc]; omega) _
  refine ⟨((b0.alloc _).alloc _).alloc _, (b1.alloc _).alloc _, b2.alloc _, b3, by simp only [World.size_alloc], fun B t v h => (((h.alloc _).alloc _).alloc _).alloc _, fun base e size v n xs h => (((h.alloc _).alloc _).alloc _).alloc _, fun k o h => ?_, hB⟩
  have hk : k < W.heap.size := (Array.getElem?_eq_some_iff.1 h).1
  rw [Below.heap_alloc _ _ _ (by simp only [World.size_alloc]; omega), Below.heap_alloc _ _ _ (by simp only [World.size_alloc]; omega), Below.heap_alloc _ _ _ (by simp only [World.size_alloc]; omega), Below.heap_alloc _ _ _ hk]
  exact h

/-- What the second loop's rounds keep: the hashes that were collected, and all boxes but n's, which holds how many were told. -/
def FInv (w : World) (D B seed : Nat) (s : ByteArray) (many : Int) (pre : List Nat) (W' : World) : Prop :=
  ((((∃ v, Boxed W' (w.heap.size + 1) 24 v ∧ W'.ownsRow (w.heap.size + 5) 22 1 v many.toNat (rowV seed s.data.toList (List.range many.toNat)) ∧ True) ∧ Boxed W' w.heap.size 4 (.bool false)) ∧ (Boxed W' (B + 1) 22 (.int .u64 seed) ∧ Boxed W' (B + 1 + 1) 9 (.string s))) ∧ (Boxed W' B 3 (.int .i64 pre.length) ∧ W'.heap[D]? = some (.deferred (some [])))) ∧ Below w.heap.size w W'
theorem own_form {W : World} {base : Nat} {e : TypeId} {size : Nat} {v : Value} {k : Nat} {xs : List Value} (h : W.ownsRow base e size v k xs) (hk : 0 < k) : ∃ g cap, v = .slice (some ⟨g, 0, none⟩) k cap := by
  rcases h.2 with ⟨_, h0⟩ | ⟨g, cap, _, rfl, _⟩
  · omega
  · exact ⟨g, cap, rfl⟩
theorem row_at {W : World} {base seed g cap M : Nat} {l : List UInt8} (h : W.ownsRow base 22 1 (.slice (some ⟨g, 0, none⟩) M cap) M (rowV seed l (List.range M))) (j : Nat) (hj : j < M) : W.cell? ⟨g, j, none⟩ = some (.int .u64 (sevN seed l j)) := by
  rw [h.cellAt j (by omega)]
  simp [rowV, hj]

set_option maxRecDepth 100000 in
set_option maxHeartbeats 4000000 in
theorem hashFirst_in (seed : Nat) (hd : seed < 18446744073709551616) (s : ByteArray) (hs : s.size ≤ 1000) (many : Int) (q1 : 1 ≤ many) (hm : many ≤ 100) (more : Int) (q2 : many ≤ more) (q3 : more ≤ 100) (w : World) :
    Calls Try.prog 3 #[.int .u64 seed, .string s, .int .i64 many, .int .i64 more] w fun e w' => e = .returned (.bool true) ∧ Below w.heap.size w w' := by
  refine (callsIn_wide (n := 6)).1 ?_
  have hsi : (s.size : Int) ≤ 1000 := by omega
  have hs2 : s.size ≤ 140737488351232 := by omega
  obtain ⟨i0, hi, hz0, hz1, hz2⟩ := info_parts info_u64
  refine callsIn_of_wp_marks Try.func3 rfl trivial ?_ rfl
  simp only [Try.ntmps3, List.size_toArray, List.length_cons, List.length_nil, Nat.reduceAdd, Nat.reduceSub, Array.replicate_succ, Array.replicate_zero, List.push_toArray, List.append_toArray, List.nil_append, List.cons_append]
  gi_wp2_with (first
    | (refine ⟨trivial, ?_⟩; gi_at_call 4; refine (callsIn_wide.2 (awake_any _)).mono ?_; rintro e w1 ⟨rfl, rfl⟩)
    | (refine ⟨trivial, ?_⟩; gi_at_call 5; refine (severalMk_in (6 - 1) seed s many _).mono ?_; rintro e w1 ⟨rfl, rfl⟩))
  obtain ⟨W0, hW0, b0, b1, b2, b3, b4, hsz, hB0⟩ := boxes5 w seed s many
  rw [hW0]
  clear hW0
  refine wpIn_rangeFunc_ownG rfl (by decide) (gf := 9) (lb := #[.pointer (some ⟨w.heap.size + 1 + 1 + 1 + 1, 0, none⟩), .pointer (some ⟨w.heap.size + 1 + 1, 0, none⟩), .pointer (some ⟨w.heap.size + 1 + 1 + 1, 0, none⟩)]) rfl trivial (enters_of Try.func9 (by kernel_rfl) rfl)
    (several_stops (6 - 1) (by decide) _ _ _ seed s hs2 many (by omega) W0 (by omega) (by omega) (by omega) b4.cell b2.cell b3.cell) boxesKept_t (boxesKept_b (by omega) (by omega)) (Below.refl _ _) (fun _ => rfl)
    (fun pre W => (((∃ v, Boxed W (w.heap.size + 1) 24 v ∧ W.ownsRow (w.heap.size + 5) 22 1 v pre.length (rowV seed s.data.toList pre) ∧ True) ∧ Boxed W w.heap.size 4 (.bool false)) ∧ (Boxed W (w.heap.size + 1 + 1) 22 (.int .u64 seed) ∧ Boxed W (w.heap.size + 1 + 1 + 1) 9 (.string s) ∧ Boxed W (w.heap.size + 1 + 1 + 1 + 1) 3 (.int .i64 many))) ∧ Below w.heap.size w W)
    (fun _ _ _ => False)
    (OwnFrom.and (OwnFrom.and (OwnFrom.and (Own.from (holdsRow_own (w.heap.size + 5) (w.heap.size + 1) 24 22 1 (fun pre : List Nat => pre.length) (fun pre => rowV seed s.data.toList pre) (fun _ _ => True)) _) (Own.from (boxed_own w.heap.size 4 (fun _ => .bool false)) _)) (OwnFrom.and (Own.from (boxed_own _ _ (fun _ => _)) _) (OwnFrom.and (Own.from (boxed_own _ _ (fun _ => _)) _) (Own.from (boxed_own _ _ (fun _ => _)) _)))) (ownFrom_below (Nat.le_refl _) (by omega)))
    (fun _ _ _ _ _ hs _ _ => hs)
    ⟨⟨⟨⟨_, b1, World.ownsRow_nil _ _ _ _, trivial⟩, b0⟩, b2, b3, b4⟩, hB0⟩ ?a1 ?assign ?body ?done ?stop
  case assign =>
    intro l x W K hK
    unfold sevV
    gi_wp2
    exact hK
  case body =>
    rintro l pre x W ⟨⟨⟨⟨v, hv, hrow, -⟩, hr⟩, hbd, hbs, hbm⟩, hB⟩ hltN
    have hc := hv.cell
    have hsw : w.heap.size + 5 ≤ W.heap.size := by have := hbm.lt; omega
    have hlen : pre.length < 100 := by omega
    gi_wp2_with (gi_at_builtin; refine wpListIn_append_own _ rfl _ _ 24 rfl (w.heap.size + 5) 22 i0 (.int .u64 0) 1 8 Try.underlying24 hi hz0 hz1 hz2 rfl (by decide) _ _ _ rfl (hrow.alloc _) ⟨W.heap.size, 0, none⟩ 1 1 [.int .u64 (sevN seed s.data.toList x)] rfl rfl (cell_one_new _ _ _) (by simp [Value.oneCell']) (by unfold maxLen; omega) (by omega) (by simp; omega) ?_; intro v' w1 hown' hgrow _; obtain ⟨g', cap', rfl⟩ := ownsRow_succ hown'; obtain ⟨hv1, hv2, hr2, hk2, hb2, hoth⟩ := appended3 (n₀ := w.heap.size) hv hrow hsw (by omega) (by omega) hown' hgrow; have hc1 := hv1.cell; have hf1 := hv1.frozen)
    have hbd2 := hoth _ _ _ hbd (by omega) (by omega)
    have hbs2 := hoth _ _ _ hbs (by omega) (by omega)
    exact ⟨hk2.from _, boxesKept_of hbd hbs hbd2 hbs2, ⟨⟨⟨_, hv2, by simpa [rowV] using hr2, trivial⟩, hoth _ _ _ hr (by omega) (by omega)⟩, hbd2, hbs2, hoth _ _ _ hbm (by omega) (by omega)⟩, hB.trans hb2⟩
  case stop =>
    rintro D c pre W _ _ h _
    exact h.elim
  case done =>
    rintro D ys W hD rfl ⟨⟨⟨⟨v, hv, hrow, -⟩, hr⟩, hbd, hbs, hbm⟩, hB⟩ hK
    clear b0 b1 b2 b3 b4 hB0 hbd hbs hbm
    rw [List.length_range] at hrow
    gi_wp2_with (refine ⟨trivial, ?_⟩; gi_at_call 5; refine (severalMk_in (6 - 1) seed s more _).mono ?_; rintro e w1 ⟨rfl, rfl⟩)
    obtain ⟨W4, hW4, e0, e1, e2, e3, hsz4, hbx4, hrow4, hob4, hB4⟩ := boxes4 W seed s more
    rw [hW4]
    clear hW4
    have hDW : D < W.heap.size := (Array.getElem?_eq_some_iff.1 hK).1
    have hwW : w.heap.size + 1 < W.heap.size := hv.lt
    refine wpIn_rangeFunc_ownG rfl (by decide) (gf := 9) (lb := #[.pointer (some ⟨W.heap.size + 1 + 1 + 1, 0, none⟩), .pointer (some ⟨W.heap.size + 1, 0, none⟩), .pointer (some ⟨W.heap.size + 1 + 1, 0, none⟩)]) rfl trivial (enters_of Try.func9 (by kernel_rfl) rfl)
      (several_stops (6 - 1) (by decide) _ _ _ seed s hs2 more (by omega) W4 (by omega) (by omega) (by omega) e3.cell e1.cell e2.cell) boxesKept_t (boxesKept_b (by omega) (by omega)) (Below.refl _ _) (fun _ => rfl)
      (FInv w D W.heap.size seed s many)
      (fun c pre _ => c = .ret ∧ ¬ pre <+: List.range more.toNat)
      (OwnFrom.and (OwnFrom.and (OwnFrom.and (OwnFrom.and (Own.from (holdsRow_own (w.heap.size + 5) (w.heap.size + 1) 24 22 1 (fun _ : List Nat => many.toNat) (fun _ => rowV seed s.data.toList (List.range many.toNat)) (fun _ _ => True)) _) (Own.from (boxed_own w.heap.size 4 (fun _ => .bool false)) _)) (OwnFrom.and (Own.from (boxed_own _ _ (fun _ => _)) _) (Own.from (boxed_own _ _ (fun _ => _)) _)))
        (OwnFrom.and (Own.from (boxed_own W.heap.size 3 (fun pre : List Nat => .int .i64 pre.length)) _) (deferred_own (by omega)))) (ownFrom_below (Nat.le_refl _) (by omega)))
      (fun c => ownFrom_pure _ _)
      ⟨⟨⟨⟨⟨_, hbx4 _ _ _ hv, hrow4 _ _ _ _ _ _ hrow, trivial⟩, hbx4 _ _ _ hr⟩, e1, e2⟩, e0, hob4 _ _ hK⟩, hB.trans (hB4.mono hB.size)⟩ ?a2 ?assign2 ?body2 ?done2 ?stop2
    case assign2 =>
      intro l x W' K hK'
      unfold sevV
      gi_wp2
      exact hK'
    case stop2 =>
      rintro D2 c pre W' _ hpre ⟨rfl, hno⟩ _
      exact (hno hpre).elim
    case body2 =>
      rintro l pre x W' ⟨⟨⟨⟨⟨v', hv', hrow', -⟩, hr'⟩, hbd, hbs⟩, hn, hK'⟩, hB'⟩ hltN
      clear e0 e1 e2 e3 hbx4 hrow4 hob4 hB4 hv hrow hr
      obtain ⟨M, hM⟩ : ∃ M : Nat, M = many.toNat := ⟨_, rfl⟩
      rw [← hM] at hrow'
      have hM1 : 0 < M := by omega
      obtain ⟨g, cap, rfl⟩ := own_form hrow' hM1
      have hcl := hv'.cell
      have hcn := hn.cell
      have hfn := hn.frozen
      have hcr := hr'.cell
      have hfr := hr'.frozen
      have hl0 : (0 : Int) ≤ (pre.length : Int) := by omega
      have hl1 : (pre.length : Int) < 100 := by omega
      have hno : Value.ownBlock (.slice (some ⟨g, 0, none⟩) M cap) ≠ some W.heap.size := (hn.not_row (by decide) hrow').symm
      have hn2 := hn.set (.int .i64 ((pre.length : Int) + 1))
      have hv2 := hv'.other (show w.heap.size + 1 ≠ W.heap.size by omega) (.int .i64 ((pre.length : Int) + 1))
      have hr2 := hr'.other (show w.heap.size ≠ W.heap.size by omega) (.int .i64 ((pre.length : Int) + 1))
      have hbd2 := hbd.other (show W.heap.size + 1 ≠ W.heap.size by omega) (.int .i64 ((pre.length : Int) + 1))
      have hbs2 := hbs.other (show W.heap.size + 1 + 1 ≠ W.heap.size by omega) (.int .i64 ((pre.length : Int) + 1))
      have hrow2 := hrow'.kept (grownBy_setCell' W' W.heap.size (.int .i64 ((pre.length : Int) + 1))) (.inr hno)
      have hK2 := (KeepsOthers.setCell W' ⟨W.heap.size, 0, none⟩ (.int .i64 ((pre.length : Int) + 1))).same D _ hK' rfl
      have hk2 := boxesKept_of hbd hbs hbd2 hbs2
      have hko := (KeepsOthers.setCell W' ⟨W.heap.size, 0, none⟩ (.int .i64 ((pre.length : Int) + 1))).from W4.heap.size
      have hB2 := hB'.setCell (p := ⟨W.heap.size, 0, none⟩) (by show _ ≤ W.heap.size; omega) (.int .i64 ((pre.length : Int) + 1))
      have hcast : (((pre ++ [x]).length : Nat) : Int) = (pre.length : Int) + 1 := by simp
      have hgo : FInv w D W.heap.size seed s many (pre ++ [x]) (W'.setCell ⟨W.heap.size, 0, none⟩ (.int .i64 ((pre.length : Int) + 1))) :=
        ⟨⟨⟨⟨⟨_, hv2, by rw [← hM]; exact hrow2, trivial⟩, hr2⟩, hbd2, hbs2⟩, by rw [hcast]; exact hn2, hK2⟩, hB2⟩
      have HGo := hide hgo
      have HS4 := hide hsz4
      clear hsz4 hgo hv2 hr2 hbd2 hbs2 hrow2 hK2 hn2 hB2 hcast hno
      by_cases hlt2 : pre.length < M
      · have hcell := row_at hrow' pre.length hlt2
        have hli : (pre.length : Int) < (M : Int) := by omega
        by_cases he : sevN seed s.data.toList pre.length = sevN seed s.data.toList x
        · rw [he] at hcell
          gi_wp2
          exact ⟨hko, hk2, HGo.out⟩
        · have hno : ¬ pre ++ [x] <+: List.range more.toNat := fun h => he (by rw [range_snoc h])
          obtain ⟨p, hp⟩ : ∃ p : Int, p = ((sevN seed s.data.toList pre.length : Nat) : Int) := ⟨_, rfl⟩
          rw [← hp] at hcell
          generalize hq : ((sevN seed s.data.toList x : Nat) : Int) = q
          have hne : (p != q) = true := by
            simp only [bne_iff_ne, ne_eq]
            omega
          have HNo := hide hno
          clear hp hq he hno
          gi_wp2
          exact ⟨(KeepsOthers.setCell _ _ _).from _, rfl, HNo.out⟩
      · have hli : (M : Int) ≤ (pre.length : Int) := by omega
        gi_wp2
        exact ⟨hko, hk2, HGo.out⟩
    case done2 =>
      rintro D2 ys2 W2 hD2 rfl ⟨⟨⟨⟨⟨v', hv', hrow', -⟩, hr'⟩, hbd, hbs⟩, hn, hK'⟩, hB'⟩ hK2
      clear e0 e1 e2 e3 hbx4 hrow4 hob4 hB4 hv hrow hr hbd hbs
      rw [List.length_range] at hn
      obtain ⟨M, hM⟩ : ∃ M : Nat, M = many.toNat := ⟨_, rfl⟩
      rw [← hM] at hrow'
      have hM1 : 0 < M := by omega
      obtain ⟨g, cap, rfl⟩ := own_form hrow' hM1
      have hcl := hv'.cell
      have hcn := hn.cell
      have hmr : ((more.toNat : Nat) : Int) = more := by omega
      rw [hmr] at hcn
      have hcr := hr'.cell
      have hfr := hr'.frozen
      have hc0 := row_at hrow' 0 hM1
      have hs0 : sevN seed s.data.toList 0 = ofN seed s.data.toList := by
        unfold sevN
        rw [Nat.add_zero, Nat.mod_eq_of_lt hd]
      rw [hs0] at hc0
      have hMi : (0 : Int) < (M : Int) := by omega
      have hMb : ((M : Int) == many) = true := by
        rw [beq_iff_eq]
        omega
      obtain ⟨l1, l2, l3, l4⟩ := last_store2 (w := w) (W := W2.drew) (b := true) (show Boxed W2.drew w.heap.size 4 (.bool false) from hr') (show w.heap.size ≤ D2 by omega) (show w.heap.size ≤ D by omega) (by omega) (by omega) (by omega) (Nat.le_refl _) hB'.drew hK2 hK'
      rw [World.setCell_drew] at l3
      clear hmr hs0 hrow' hM hM1 hn hv' hr'
      gi_wp2
      refine Code.wpIn_mono NoPanic.imp ?_
      gi_region_with (refine ⟨trivial, ?_⟩; gi_at_call 6; refine (callsIn_wide.2 (of_any seed hd s hs2 _)).mono ?_; rintro e w' ⟨rfl, rfl⟩)
      all_goals refine NoPanic.normal ?_
      all_goals gi_wp2
      all_goals refine ⟨by simp, .inl ⟨_, _, rfl, run_takeDeferred l1, ?_⟩⟩
      all_goals refine ⟨by simp, .inl ⟨_, _, rfl, run_takeDeferred l2, ?_⟩⟩
      all_goals refine ⟨.bool true, ?_, rfl, l4⟩
      all_goals rw [results_cell rfl]
      all_goals go_simp
set_option maxHeartbeats 2000000 in
/-- Beyond the statement's bounds the law returns what awake said. -/
theorem hashFirst_out (seed : Int) (s : ByteArray) (many more : Int) (h : 1000 < s.size ∨ many < 1 ∨ 100 < many ∨ more < many ∨ 100 < more) (w : World) :
    Calls Try.prog 3 #[.int .u64 seed, .string s, .int .i64 many, .int .i64 more] w fun e w' => e = .returned (.bool true) ∧ Below w.heap.size w w' := by
  have hB : Below w.heap.size w (w.alloc (.cells #[.bool true] 4)) := (Below.refl _ w).alloc (Nat.le_refl _) _
  have h' : (1000 : Int) < (s.size : Int) ∨ ((s.size : Int) ≤ 1000 ∧ many < 1) ∨ ((s.size : Int) ≤ 1000 ∧ 1 ≤ many ∧ 100 < many) ∨ ((s.size : Int) ≤ 1000 ∧ 1 ≤ many ∧ many ≤ 100 ∧ more < many) ∨ ((s.size : Int) ≤ 1000 ∧ 1 ≤ many ∧ many ≤ 100 ∧ many ≤ more ∧ 100 < more) := by omega
  clear h
  rcases h' with h | ⟨h, g⟩ | ⟨h, g, k⟩ | ⟨h, g, k, m⟩ | ⟨h, g, k, m, n⟩
  all_goals
    go_enter Try.func3, Try.ntmps3
    go_wp2_with (go_at_call 4; refine (awake_any _).mono ?_; rintro e w1 ⟨rfl, rfl⟩)
    refine bodyPost_ret (v := .bool true) ?_ rfl ⟨rfl, hB⟩
    rw [results_cell rfl]
    go_simp
theorem hashFirst_walk (a0 : Int) (w0 : (Lit.int .u64 a0).wf = true) (s : ByteArray) (_w1 : s.size ≤ 140737488351232) (many : Int) (_w2 : (Lit.int .i64 many).wf = true) (more : Int) (_w3 : (Lit.int .i64 more).wf = true) (W : World) :
    Calls Try.prog 3 #[.int .u64 a0, .string s, .int .i64 many, .int .i64 more] W fun e W' => e = .returned (.bool true) ∧ Below W.heap.size W W' := by
  obtain ⟨p0, p1⟩ := u64_wf w0
  by_cases h : 1000 < s.size ∨ many < 1 ∨ 100 < many ∨ more < many ∨ 100 < more
  · exact hashFirst_out a0 s many more h W
  · obtain ⟨a, rfl⟩ := Int.eq_ofNat_of_zero_le p0
    exact hashFirst_in a (by omega) s (by omega) many (by omega) (by omega) more (by omega) (by omega) W
end Go.Proofs.Ytemhndjdfkkkhab
