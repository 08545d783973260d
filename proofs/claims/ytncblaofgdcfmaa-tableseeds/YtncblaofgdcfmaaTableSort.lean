/- Entries in the order of their texts, by slices.SortFunc, as package table asks it. Conditions: at most 50000 entries. -/
import Derived.Test.YtncblaofgdcfmaaTableCat
import Derived.Test.YtncblaofgdcfmaaTableShelf
namespace Go.Proofs.Ytncblaofgdcfmaa
open Go.RowKit Go.Shelf Go.Lib Go.Sort

def enL (p : Kv) : List Value := [.string p.1, .int .i64 p.2]
def cfK (x y : Kv) : Int := Lib.compareBytes x.1.data.toList y.1.data.toList
theorem cmp_lt : ∀ a b : List UInt8, decide (Lib.compareBytes a b < 0) = ltB a b
  | [], [] => rfl
  | [], _ :: _ => rfl
  | _ :: _, [] => rfl
  | a :: l, b :: m => by
    unfold Lib.compareBytes ltB
    by_cases h1 : a < b
    · rw [if_pos h1, if_pos h1]
      rfl
    · rw [if_neg h1, if_neg h1]
      by_cases h2 : b < a
      · rw [if_pos h2, if_pos h2]
        rfl
      · rw [if_neg h2, if_neg h2]
        exact cmp_lt l m
theorem lt_cf (x y : Kv) : ltOf cfK x y = ltK x.1 y.1 := cmp_lt _ _
theorem swoK : SWO (ltOf cfK) where
  irrefl x := by rw [lt_cf]; exact ltK_irrefl _
  trans x y z h1 h2 := by rw [lt_cf] at *; exact ltK_trans h1 h2
  ntrans x y z h1 h2 := by
    rw [lt_cf] at *
    cases h : ltK x.1 z.1 with
    | false => rfl
    | true =>
      cases h3 : ltK y.1 x.1 with
      | true => rw [ltK_trans h3 h] at h2; cases h2
      | false =>
        have e := ltK_total h1 h3
        rw [e] at h
        rw [h] at h2
        cases h2
theorem flat_enV (d : Array Kv) : (flatK enL 2 d).toList = enV d.toList := by
  apply List.ext_getElem?
  intro t
  by_cases ht : t < d.size * 2
  · have hi : t / 2 < d.toList.length := by rw [Array.length_toList]; omega
    have hp : d.toList[t / 2]? = some d.toList[t / 2] := List.getElem?_eq_getElem hi
    obtain ⟨k1, k2⟩ := enV_at hp
    have hg := get_flatK enL 2 d t ht
    have hf : (flatK enL 2 d).toList[t]? = some (flatK enL 2 d)[t]! := by
      rw [Array.getElem?_toList, Array.getElem?_eq_getElem (by rw [size_flatK]; exact ht), getElem!_pos _ t (by rw [size_flatK]; exact ht)]
    have hd : d[t / 2]! = d.toList[t / 2] := by
      rw [getElem!_pos d (t / 2) (by rw [← Array.length_toList]; exact hi)]
      rfl
    rw [hf, hg, hd]
    rcases Nat.mod_two_eq_zero_or_one t with e | e
    · have ej : t = t / 2 * 2 := by omega
      rw [← ej] at k1
      rw [k1, e]
      rfl
    · have ej : t = t / 2 * 2 + 1 := by omega
      rw [← ej] at k2
      rw [k2, e]
      rfl
  · rw [List.getElem?_eq_none (by rw [Array.length_toList, size_flatK]; omega), List.getElem?_eq_none (by rw [enV_len, Array.length_toList]; omega)]
theorem holds_row {w : World} {n0 g cap : Nat} {d : Array Kv} (h : w.ownsRow n0 63 2 (.slice (some ⟨g, 0, none⟩) d.size cap) d.size (enV d.toList)) : HoldsK enL 2 w g 0 d := by
  intro j hj
  have hj' : j < d.size * 2 := by rwa [size_flatK] at hj
  rw [Nat.zero_add]
  refine ⟨?_, World.ownsRow.frozenAt h j⟩
  rw [World.ownsRow.cellAt h j hj', ← flat_enV, Array.getElem?_toList, Array.getElem?_eq_getElem hj, getElem!_pos _ j hj]
  rfl
theorem sorted_row {w : World} {n0 g cap m : Nat} {d d' : Array Kv} {os : Array Obj} (h : w.ownsRow n0 63 2 (.slice (some ⟨g, 0, none⟩) d.size cap) d.size (enV d.toList)) (hs : d'.size = d.size) :
    (sortWorldK enL 2 w g 0 m d' os).ownsRow n0 63 2 (.slice (some ⟨g, 0, none⟩) d.size cap) d.size (enV d'.toList) ∧ w.grownBy (sortWorldK enL 2 w g 0 m d' os) (some g) := by
  have hl : (enV d'.toList).length = d.size * 2 := by rw [enV_len, Array.length_toList, hs]
  rcases h.2 with ⟨h', _⟩ | ⟨g', cap', cur, h', hb, hg, hnc, hcm, hcs, htake⟩
  · simp at h'
  · simp only [Value.slice.injEq, Option.some.injEq, Addr.mk.injEq, and_true, true_and] at h'
    obtain ⟨rfl, rfl⟩ := h'
    have hlt := (Array.getElem?_eq_some_iff.1 hg).1
    have hsz : (w.heap.modify g (onCells (putCells id 0 (flatK enL 2 d')))).size = w.heap.size := by simp
    have hh : (sortWorldK enL 2 w g 0 m d' os).heap[g]? = some (.cells (putCells id 0 (flatK enL 2 d') cur) 63 (0, 0)) := by
      show (w.heap.modify g (onCells (putCells id 0 (flatK enL 2 d'))) ++ os)[g]? = _
      rw [Array.getElem?_append_left (by rw [hsz]; exact hlt), Array.getElem?_modify, if_pos rfl, hg]
      rfl
    refine ⟨⟨hl, .inr ⟨g, cap, _, rfl, hb, hh, hnc, hcm, by unfold putCells; rw [Array.size_mapIdx]; exact hcs, ?_⟩⟩, ⟨rfl, rfl, rfl, ?_, fun k hk hne => ?_⟩⟩
    · apply List.ext_getElem?
      intro t
      rw [List.getElem?_take]
      by_cases ht : t < d.size * 2
      · have htc : t < cur.size := by omega
        have htf : t < (flatK enL 2 d').size := by rw [size_flatK, hs]; exact ht
        rw [if_pos ht, ← flat_enV, Array.getElem?_toList, Array.getElem?_toList, Array.getElem?_eq_getElem htf]
        unfold putCells
        rw [Array.getElem?_mapIdx, Array.getElem?_eq_getElem htc]
        show some (if 0 ≤ t ∧ t < 0 + (flatK enL 2 d').size then id (flatK enL 2 d')[t - 0]! else cur[t]) = _
        rw [if_pos ⟨Nat.zero_le _, by omega⟩, Nat.sub_zero, getElem!_pos _ t htf]
        rfl
      · rw [if_neg ht, List.getElem?_eq_none (by rw [hl]; omega)]
    · show w.heap.size ≤ (w.heap.modify g (onCells (putCells id 0 (flatK enL 2 d'))) ++ os).size
      rw [Array.size_append, hsz]
      omega
    · show (w.heap.modify g (onCells (putCells id 0 (flatK enL 2 d'))) ++ os)[k]? = _
      rw [Array.getElem?_append_left (by rw [hsz]; exact hk), Array.getElem?_modify, if_neg (fun e => hne (by rw [e]))]
set_option maxHeartbeats 1000000 in
theorem cmp_any (x y : Kv) (W : World) : Calls Try.prog 39 #[.agg #[.string x.1, .int .i64 x.2], .agg #[.string y.1, .int .i64 y.2]] W fun e w' => e = .returned (.int .i64 (cfK x y)) ∧ ∃ q os', w' = grow (W.drewN q) os' := by
  have hcon := fun W' => Any.strings_Compare Try.lays106 x.1 y.1 W'
  change ∀ W', Calls Try.prog 40 _ _ _ at hcon
  have HC : Hid (∀ W', Calls Try.prog 40 #[.string x.1, .string y.1] W' fun e w' => e = .returned (.int .i64 (cfK x y)) ∧ w' = W') := hcon
  clear hcon
  generalize cfK x y = r at *
  go_enter Try.func39, Try.ntmps39
  go_wp2_with (go_at_call 40; refine (HC.out _).mono ?_; rintro e w' ⟨rfl, rfl⟩)
  go_ret
  exact ⟨rfl, 0, _, by rw [alloc_eq_grow, alloc_eq_grow, grow_grow]; rfl⟩
theorem cmpLaysK (blk off size : Nat) (w : World) : CmpLays Try.prog 39 #[] enL 2 cfK blk off size w := fun _ _ _ _ x y => cmp_any x y _
theorem sorted_rising {l : List Kv} {d' : Array Kv} (hn : NodupK l) (hp : PermIn 0 l.toArray.size l.toArray d') (hs : SortedIn (ltOf cfK) 0 l.toArray.size d') : Rising d'.toList ∧ d'.toList.Perm l := by
  have hperm : d'.toList.Perm l := by
    have h := hp.2.2
    have e1 : d'.extract 0 l.toArray.size = d' := by rw [← hp.1]; exact Array.extract_size ..
    have e2 : l.toArray.extract 0 l.toArray.size = l.toArray := Array.extract_size ..
    rw [e1, e2] at h
    exact h
  refine ⟨?_, hperm⟩
  have hnd := hn.perm hperm.symm
  unfold NodupK List.Nodup at hnd
  rw [List.pairwise_map] at hnd
  unfold Rising
  rw [List.pairwise_iff_getElem] at hnd ⊢
  intro i j hi hj hij
  have h1 := hs i j (Nat.zero_le _) hij (by rw [← hp.1, ← Array.length_toList]; exact hj)
  rw [lt_cf, getElem!_pos d' j (by rw [← Array.length_toList]; exact hj), getElem!_pos d' i (by rw [← Array.length_toList]; exact hi)] at h1
  have h2 := hnd i j hi hj hij
  cases h3 : ltK d'.toList[i].1 d'.toList[j].1 with
  | true => rfl
  | false => exact absurd (ltK_total h3 h1) h2
set_option maxRecDepth 100000 in
set_option maxHeartbeats 2000000 in
theorem sort_any {F : Nat → Prop} {w0 w : World} {R : Part} {n0 : Nat} {v : Value} {l : List Kv} (H : LawF F w0 w ((rowP n0 63 2 v l.length (enV l)).and R)) (hn : NodupK l) (hl : l.length ≤ 50000) :
    Calls Try.prog 38 #[v, .func (.func 39) #[] #[]] w fun e w' => e = .returned (.tuple #[]) ∧ ∃ l', Rising l' ∧ l'.Perm l ∧ LawF F w0 w' ((rowP n0 63 2 v l'.length (enV l')).and R) := by
  have eg : ∀ args w, (callFunc 39 args).run Try.prog w = .ok (.enter 39 args) w := enters_of Try.func39 (by kernel_rfl) rfl
  have hb := fun W => Any.bits_Len Try.lays125 (l.length : Int) W (by omega) (by omega)
  change ∀ W, Calls Try.prog 47 _ _ _ at hb
  have HB : Hid (∀ W, Calls Try.prog 47 #[.int .u64 (l.length : Int)] W fun e w' => e = .returned (.int .i64 (Lib.bitLen l.length : Nat)) ∧ w' = W) := fun W => by
    have h := hb W
    rwa [Int.toNat_natCast] at h
  have wr : IntKind.u64.wrap (l.length : Int) = l.length := by simp [IntKind.wrap, IntKind.bits, IntKind.signed]; omega
  clear hb
  by_cases h0 : l = []
  · subst h0
    obtain ⟨a, c, rfl⟩ := own_shape H.q.1
    have hp := fun lim W => AnyF.pdqsortCmpFunc_none (P := Try.prog) (ρ := Try.laysPdq_ren) Try.laysPdq a c lim (.func (.func 39) #[] #[]) W
    change ∀ lim W, Calls Try.prog 46 _ _ _ at hp
    have HP := hide hp
    have HH := hide H
    have HB0 : Hid (∀ W, Calls Try.prog 47 #[.int .u64 0] W fun e w' => e = .returned (.int .i64 (Lib.bitLen 0 : Nat)) ∧ w' = W) := HB
    clear hp H HB wr
    go_enter Try.func38, Try.ntmps38
    go_wp2_with (first
      | (go_at_call 47; refine (HB0.out _).mono ?_; rintro e w' ⟨rfl, rfl⟩)
      | (go_at_call 46; refine (HP.out _ _).mono ?_; rintro e w' ⟨rfl, rfl⟩))
    go_end0
    exact ⟨rfl, [], List.Pairwise.nil, List.Perm.refl _, HH.out⟩
  · have hlen : 0 < l.length := List.length_pos_iff.2 h0
    obtain ⟨g, cap, rfl⟩ := own_form H.q.1 hlen
    have hrow : w.ownsRow n0 63 2 (.slice (some ⟨g, 0, none⟩) l.toArray.size cap) l.toArray.size (enV l.toArray.toList) := H.q.1
    have hblk : g < w.heap.size := (own_at H.q.1 rfl).2.1
    have hsz : l.toArray.size ≤ 50000 := hl
    have hlim : Lib.bitLen l.toArray.size < 4611686018427387904 := Nat.lt_of_le_of_lt (Lib.bitLen_le l.toArray.size 62 (by omega) (by omega)) (by omega)
    have hp := AnyQ.pdqsortCmpFunc_all (P := Try.prog) (ρ := Try.laysPdq_ren) Try.laysPdq 2 Try.isAgg63 Try.sizeOf63 enL cfK 39 #[] swoK g 0 cap l.toArray w eg (cmpLaysK g 0 l.toArray.size w)
      ⟨fun _ => rfl, fun x v hv => by simp [enL] at hv; rcases hv with rfl | rfl <;> rfl, holds_row hrow, hblk⟩ (l.toArray.size + 1) 0 l.toArray.size (Lib.bitLen l.toArray.size) l.toArray w (by omega) rfl (SWK.start (holds_row hrow)) (Nat.zero_le _) (Nat.le_refl _) (by omega) hlim (Or.inl rfl)
    change Calls Try.prog 46 _ _ _ at hp
    obtain ⟨s1, s2⟩ := pdq_sorts (ltOf cfK) swoK l.toArray 0 l.toArray.size (Lib.bitLen l.toArray.size) true true (Nat.zero_le _) (Nat.le_refl _) (Or.inl rfl)
    obtain ⟨r1, r2⟩ := sorted_rising hn s1 s2
    have hsz2 := s1.1
    generalize pdq (ltOf cfK) l.toArray 0 l.toArray.size (Lib.bitLen l.toArray.size) true true = d' at *
    have HR := hide (fun m os => sorted_row (m := m) (os := os) hrow hsz2)
    have HP : Hid (Calls Try.prog 46 #[.slice (some ⟨g, 0, none⟩) l.length cap, .int .i64 0, .int .i64 (l.length : Nat), .int .i64 (Lib.bitLen l.length : Nat), .func (.func 39) #[] #[]] w fun e w' => e = .returned (.tuple #[]) ∧ SWK enL 2 w g 0 d' w') := hp
    have HH := hide H
    have hl2 : d'.toList.length = l.length := r2.length_eq
    clear hp H hrow s1 s2 hn h0 hlen hblk hlim hsz
    go_enter Try.func38, Try.ntmps38
    go_wp2_with (first
      | (go_at_call 47; refine (HB.out _).mono ?_; rintro e w' ⟨rfl, rfl⟩)
      | (go_at_call 46; refine HP.out.mono ?_; rintro e w' ⟨rfl, m, os, rfl⟩))
    go_end0
    refine ⟨rfl, d'.toList, r1, r2, ?_⟩
    obtain ⟨q1, q2⟩ := HR.out m os
    rw [hl2]
    exact HH.out.app0 q1 q2 (.inl rfl)
end Go.Proofs.Ytncblaofgdcfmaa
