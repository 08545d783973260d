/- What counter and halve come to in package sketch. Conditions: none. The places of a text in package sketch: the sequence that is made, and what it tells, one by one, as long as one goes on: it ranges over hash.Several itself. Conditions: the text takes at most 140737488351232 bytes. What Count of package sketch answers. Conditions: the text takes at most 300 bytes. -/
import Derived.Test.YtckjjfkfapfdaaaGreatG26Joined
import Derived.BigQuiet
import Derived.RangeFuncSeq
import Derived.Test.YtckjjfkfapfdaaaGreatG24Joined
import Derived.Test.YtckjjfkfapfdaaaGreatG25Joined
namespace Go.Proofs.YtckjjfkfapfdaaaGreat
open Go.RowKit

/-- The address of a row, and of a byte in it. -/
theorem row_at (b r : Nat) (h : r < 4) (W : World) : (Instr.indexAt 160 (.pointer (some ⟨b, 2, none⟩)) (.int .i64 (r : Int))).run Tryz.prog W = .ok (.pointer (some ⟨b, 2 + 32 * r, none⟩)) W := by
  have h8 : r = 0 ∨ r = 1 ∨ r = 2 ∨ r = 3 := by omega
  clear h
  rcases h8 with rfl | rfl | rfl | rfl <;> (show _ = _; kernel_rfl)
theorem byte_at (b o c : Nat) (h : c < 32) (W : World) : (Instr.indexAt 159 (.pointer (some ⟨b, o, none⟩)) (.int .i64 (c : Int))).run Tryz.prog W = .ok (.pointer (some ⟨b, o + c, none⟩)) W := by
  have h8 : c = 0 ∨ c = 1 ∨ c = 2 ∨ c = 3 ∨ c = 4 ∨ c = 5 ∨ c = 6 ∨ c = 7 ∨ c = 8 ∨ c = 9 ∨ c = 10 ∨ c = 11 ∨ c = 12 ∨ c = 13 ∨ c = 14 ∨ c = 15 ∨ c = 16 ∨ c = 17 ∨ c = 18 ∨ c = 19 ∨ c = 20 ∨ c = 21 ∨ c = 22 ∨ c = 23 ∨ c = 24 ∨ c = 25 ∨ c = 26 ∨ c = 27 ∨ c = 28 ∨ c = 29 ∨ c = 30 ∨ c = 31 := by omega
  clear h
  rcases h8 with rfl | rfl | rfl | rfl | rfl | rfl | rfl | rfl | rfl | rfl | rfl | rfl | rfl | rfl | rfl | rfl | rfl | rfl | rfl | rfl | rfl | rfl | rfl | rfl | rfl | rfl | rfl | rfl | rfl | rfl | rfl | rfl <;> (show _ = _; kernel_rfl)
theorem wrapK_nat (n : Nat) (h : n < 9223372036854775808) : IntKind.i64.wrap (n : Int) = (n : Int) := by
  simp [IntKind.wrap, IntKind.bits, IntKind.signed]
  omega
theorem quo_half (p : Nat) (h : p < 64) : ((p : Int) / 2) = ((p / 2 : Nat) : Int) ∧ (p : Int).tdiv 2 = ((p / 2 : Nat) : Int) ∧ Value.int .i64 (IntKind.i64.wrap ((p / 2 : Nat) : Int)) = .int .i64 ((p / 2 : Nat) : Int) ∧ p / 2 < 32 := by
  have h1 : ((p : Int) / 2) = ((p / 2 : Nat) : Int) := by omega
  have h2 : p / 2 < 32 := by omega
  refine ⟨h1, by rw [Int.tdiv_eq_ediv_of_nonneg (by omega)]; exact h1, by rw [wrapK_nat _ (Nat.lt_trans h2 (by decide))], h2⟩

set_option maxRecDepth 100000 in
set_option maxHeartbeats 1000000 in
theorem counter_any {w : World} {b sd age : Nat} {bs : List Nat} (hl : bs.length = 128) (h : Blk w b sd age bs) (r p : Nat) (hr : r < 4) (hp : p < 64) (hb : bs.getD (32 * r + p / 2) 0 < 256) :
    Calls Tryz.prog 110 #[.pointer (some ⟨b, 0, none⟩), .int .i64 r, .int .i64 p] w fun e w' => e = .returned (.int .i64 ((bs.getD (32 * r + p / 2) 0 / (if p % 2 = 0 then 1 else 16) % 16 : Nat) : Int)) ∧ ∃ m, w' = w.drewN m := by
  have hc := blk_at h (32 * r + p / 2) (by omega)
  rw [← Nat.add_assoc] at hc
  generalize bs.getD (32 * r + p / 2) 0 = y at *
  have HS := shift_any p hp
  obtain ⟨hq, hqt, hqw, hq8⟩ := quo_half p hp
  have h1 := row_at b r hr
  have h2 := byte_at b (2 + 32 * r) _ hq8
  generalize p / 2 = c at *
  have hm := Nat.mod_lt p (show 0 < 2 by decide)
  generalize p % 2 = m at *
  clear h hp hq8 hl hr
  obtain rfl | rfl : m = 0 ∨ m = 1 := by omega
  · clear hm
    go_enter Tryz.func110, Tryz.ntmps110
    go_wp2
    go_quiet ((go_at_call 111; refine Calls.quiet_of_same ((HS _).mono fun e w' h => ⟨h.1, h.2.symm⟩)))
    go_wp2
    go_ret
    exact ⟨rfl, nq, rfl⟩
  · clear hm
    go_enter Tryz.func110, Tryz.ntmps110
    go_wp2
    go_quiet ((go_at_call 111; refine Calls.quiet_of_same ((HS _).mono fun e w' h => ⟨h.1, h.2.symm⟩)))
    go_wp2
    go_ret
    exact ⟨rfl, nq, rfl⟩
/-- The counter that a byte holds. -/
theorem nibble {C : List Nat} (hC : ∀ c ∈ C, c ≤ 15) (r p : Nat) : pk C (32 * r + p / 2) / (if p % 2 = 0 then 1 else 16) % 16 = C.getD (r * 64 + p) 0 := by
  have h1 := get_le hC (2 * (32 * r + p / 2))
  have h2 := get_le hC (2 * (32 * r + p / 2) + 1)
  unfold pk
  rcases Nat.mod_two_eq_zero_or_one p with h | h
  · have e : r * 64 + p = 2 * (32 * r + p / 2) := by omega
    rw [if_pos h, e]
    omega
  · have e : r * 64 + p = 2 * (32 * r + p / 2) + 1 := by omega
    rw [if_neg (by omega), e]
    omega
theorem sk_counter {w : World} {b sd : Nat} {st : St} (h : Sk0 w b sd st) (r p : Nat) (hr : r < 4) (hp : p < 64) :
    Calls Tryz.prog 110 #[.pointer (some ⟨b, 0, none⟩), .int .i64 r, .int .i64 p] w fun e w' => e = .returned (.int .i64 ((st.1.getD (r * 64 + p) 0 : Nat) : Int)) ∧ ∃ m, w' = w.drewN m := by
  have hj : 32 * r + p / 2 < 128 := by omega
  have := counter_any (pack_len st.1) h.2.2 r p hr hp (by rw [pack_getD _ _ hj]; exact pk_lt h.1.le _)
  rwa [pack_getD _ _ hj, nibble h.1.le] at this

/-- Bytes of which the first k are halved. -/
def halfB (x : Nat) : Nat := x / 2 &&& 119
def halfBs (bs : List Nat) (k : Nat) : List Nat := (bs.take k).map halfB ++ bs.drop k
theorem half_pk (x y : Nat) (hx : x ≤ 15) (hy : y ≤ 15) : halfB (x + 16 * y) = x / 2 + 16 * (y / 2) := by
  have : ∀ x, x < 16 → ∀ y, y < 16 → halfB (x + 16 * y) = x / 2 + 16 * (y / 2) := by decide
  exact this x (by omega) y (by omega)
theorem pack_half {C : List Nat} (hC : ∀ c ∈ C, c ≤ 15) : (pack C).map halfB = pack (C.map (· / 2)) := by
  unfold pack
  rw [List.map_map]
  apply List.map_congr_left
  intro j _
  show halfB (pk C j) = _
  unfold pk
  rw [half_pk _ _ (get_le hC _) (get_le hC _), half_get, half_get]
theorem halfBs_len (bs : List Nat) (k : Nat) : (halfBs bs k).length = bs.length := by simp [halfBs]; omega
theorem halfBs_zero (bs : List Nat) : halfBs bs 0 = bs := by simp [halfBs]
theorem halfBs_all (bs : List Nat) (k : Nat) (h : bs.length ≤ k) : halfBs bs k = bs.map halfB := by
  simp [halfBs, List.take_of_length_le h, List.drop_of_length_le h]
theorem halfBs_step (bs : List Nat) (k : Nat) (h : k < bs.length) : (halfBs bs k).set k (halfB (bs.getD k 0)) = halfBs bs (k + 1) := by
  unfold halfBs
  have h1 : ((bs.take k).map halfB).length = k := by simp; omega
  rw [List.set_append_right _ _ (by omega), h1, Nat.sub_self, List.drop_eq_getElem_cons h, List.set_cons_zero, List.take_succ_eq_append_getElem h, List.map_append, List.append_assoc]
  simp [List.getD, List.getElem?_eq_getElem h]
theorem halfBs_get (bs : List Nat) (k j : Nat) (h : k ≤ j) (hj : j < bs.length) : (halfBs bs k)[j]? = bs[j]? := by
  unfold halfBs
  rw [List.getElem?_append_right (by simp; omega)]
  simp only [List.length_map, List.length_take, List.getElem?_drop]
  congr 1
  omega

/-- A byte out of a row that was read. -/
theorem index_val (cs : Array Value) (i : Nat) (v : Value) (hi : i < 32) (hv : cs[i]? = some v) (W : World) : (Instr.index 159 (.agg cs) (.int .i64 (i : Int))).run Tryz.prog W = .ok v W := by
  have hb : (0 : Int) ≤ (i : Int) ∧ (i : Int) < 32 := by omega
  have ha : (isAgg 5).run Tryz.prog W = .ok false W := by kernel_rfl
  have hs : (sizeOf 5).run Tryz.prog W = .ok 1 W := by kernel_rfl
  simp [Instr.index, run_underlying Tryz.underlying159, asIntOf, hb, part, ha, hs, hv, Result.andThen]
  intro h32
  exact (Nat.not_lt_of_le h32 hi).elim
/-- A row's bytes, as values. -/
def rowV (bs : List Nat) (r : Nat) : List Value := ((bs.drop (32 * r)).take 32).map fun x => .int .u8 (x : Nat)
theorem rowV_len {bs : List Nat} (hl : bs.length = 128) (r : Nat) (hr : r < 4) : (rowV bs r).length = 32 := by
  simp [rowV]
  omega
theorem rowV_get {bs : List Nat} (hl : bs.length = 128) (r i : Nat) (hr : r < 4) (hi : i < 32) : (rowV bs r).toArray[i]? = some (.int .u8 (bs.getD (32 * r + i) 0 : Nat)) := by
  have h : 32 * r + i < bs.length := by omega
  simp [rowV, hi, List.getElem?_drop, List.getElem?_eq_getElem h, List.getD]
theorem rowV_range {w : World} {b sd age : Nat} {bs : List Nat} (r : Nat) (hl : bs.length = 128) (hr : r < 4) (h : Blk w b sd age (halfBs bs (32 * r))) : w.rangeAt b (2 + 32 * r) (rowV bs r) := fun j v hv => by
  have hj : j < 32 := by
    have := (List.getElem?_eq_some_iff.1 hv).1
    rwa [rowV_len hl r hr] at this
  have h1 := blk_at h (32 * r + j) (by rw [halfBs_len]; omega)
  have h2 : (halfBs bs (32 * r)).getD (32 * r + j) 0 = bs.getD (32 * r + j) 0 := by
    simp only [List.getD, halfBs_get bs (32 * r) (32 * r + j) (by omega) (by omega)]
  have h3 := rowV_get hl r j hr hj
  rw [List.getElem?_toArray, hv] at h3
  rw [h3, ← h2, Nat.add_assoc]
  exact h1
theorem half_byte (x : Nat) (h : x < 256) : bits .and .u8 ((x : Int) / 2) 119 = ((halfB x : Nat) : Int) := by
  have : ∀ x : Nat, x < 256 → bits .and .u8 ((x : Int) / 2) 119 = ((halfB x : Nat) : Int) := by decide +kernel
  exact this x h
theorem getD_lt256 {bs : List Nat} (h : ∀ x ∈ bs, x < 256) (j : Nat) : bs.getD j 0 < 256 := by
  by_cases hq : j < bs.length
  · simp only [List.getD, List.getElem?_eq_getElem hq, Option.getD_some]
    exact h _ (List.getElem_mem hq)
  · simp [List.getD, List.getElem?_eq_none (Nat.le_of_not_lt hq)]
theorem set_grown {w V : World} {b o : Nat} (h : w.grownBy V (some b)) (v : Value) : w.grownBy (V.setCell ⟨b, o, none⟩ v) (some b) :=
  ⟨h.1, h.2, h.3, Nat.le_trans h.4 (KeepsWalks.setCell V _ v).size, fun i hi hb => (Below.heap_setCell _ _ _ i (fun e => hb (by rw [e]))).trans (h.5 i hi hb)⟩

set_option maxRecDepth 100000 in
set_option maxHeartbeats 1000000 in
theorem halve_any {w : World} {b sd age : Nat} {bs : List Nat} (hl : bs.length = 128) (hx : ∀ x ∈ bs, x < 256) (h : Blk w b sd age bs) :
    Calls Tryz.prog 112 #[.pointer (some ⟨b, 0, none⟩)] w fun e w' => (∃ v, e = .returned v) ∧ Blk w' b sd 320 (bs.map halfB) ∧ w.grownBy w' (some b) := by
  have HL := hide hl
  have HX := hide hx
  have h0 : Blk w b sd age (halfBs bs 0) := by rw [halfBs_zero]; exact h
  clear hl hx h
  go_enter Tryz.func112, Tryz.ntmps112
  go_wp2
  go_loopw [5] (fun i wr => ∃ r : Nat, r ≤ 4 ∧ i = .int .i64 r ∧ Blk wr b sd age (halfBs bs (32 * r)) ∧ w.grownBy wr (some b)) (fun i _ => 4 - (intOf i).toNat)
  case atStart => exact ⟨0, by omega, rfl, h0, gr_refl _ _⟩
  case round =>
    clear h0
    obtain ⟨r, hr, rfl, hB, hg⟩ := hrel
    by_cases hlt : r < 4
    · have hR := hide (rowV_range r HL.out hlt hB)
      have hi : Hid ((Tryz.prog.info? 159).map (·.size) = some (rowV bs r).length) := by
        show _ = _
        rw [rowV_len HL.out r hlt]
        kernel_rfl
      have h1 := row_at b r hlt
      have HV := hide (fun i (hi : i < 32) => index_val (rowV bs r).toArray i _ hi (rowV_get HL.out r i hlt hi))
      generalize rowV bs r = cs at *
      go_wp2_with (refine wpList_load_mid rfl 159 _ rfl b _ rfl cs _ hR.out Tryz.underlying159 rfl hi.out ?_)
      clear hR hi
      go_loopw [14] (fun i wr2 => ∃ c : Nat, c ≤ 32 ∧ i = .int .i64 c ∧ Blk wr2 b sd age (halfBs bs (32 * r + c)) ∧ w.grownBy wr2 (some b)) (fun i _ => 32 - (intOf i).toNat)
      case atStart => exact ⟨0, by omega, rfl, hB, hg⟩
      case round =>
        clear hB hg
        obtain ⟨c, hc, rfl, hB, hg⟩ := hrel
        by_cases hlt2 : c < 32
        · have hix := HV.out c hlt2
          have h2 := byte_at b (2 + 32 * r) c hlt2
          have hE := half_byte (bs.getD (32 * r + c) 0) (getD_lt256 HX.out _)
          have hln : 32 * r + c < bs.length := by rw [HL.out]; omega
          have hfr := blk_free hB (2 + 32 * r + c)
          have hcl := blk_at hB (32 * r + c) (by rw [halfBs_len]; exact hln)
          have hN := blk_set hB (32 * r + c) (halfB (bs.getD (32 * r + c) 0))
          have hgN := set_grown hg (o := 2 + (32 * r + c)) (.int .u8 ((halfB (bs.getD (32 * r + c) 0) : Nat) : Int))
          rw [halfBs_step bs _ hln] at hN
          rw [← Nat.add_assoc] at hN hgN hcl
          generalize halfB (bs.getD (32 * r + c) 0) = z at *
          generalize bs.getD (32 * r + c) 0 = x at *
          have HN := hide hN
          have HG := hide hgN
          clear hN hgN hln hB hg
          go_wp2
          go_round
          case rel => exact ⟨c + 1, by omega, by go_num, HN.out, HG.out⟩
          case measure => simp [intOf]; omega
        · obtain rfl : c = 32 := by omega
          go_wp2
          go_round
          case rel => exact ⟨r + 1, by omega, by go_num, hB, hg⟩
          case measure => simp [intOf]; omega
    · obtain rfl : r = 4 := by omega
      rw [halfBs_all bs (32 * 4) (by rw [HL.out]; decide)] at hB
      have hfr := blk_free hB 1
      have hcl := blk_age hB
      have HN := hide (blk_setAge hB 320)
      have HG := hide (set_grown hg (o := 1) (.int .i64 ((320 : Nat) : Int)))
      go_wp2
      go_end0
      exact ⟨⟨_, rfl⟩, HN.out, HG.out⟩
end Go.Proofs.YtckjjfkfapfdaaaGreat

namespace Go.Proofs.YtckjjfkfapfdaaaGreat
open Go.RowKit Go.Shelf
attribute [local go_sem] Oper.semAt_some

set_option maxHeartbeats 1000000 in
theorem placesKMk_in (n b : Nat) (s : ByteArray) (w : World) :
    CallsIn Fence.wide n Tryz.prog 109 #[.pointer (some ⟨b, 0, none⟩), .string s] w fun e w' =>
      e = .returned (.func (.func 135) #[] #[.pointer (some ⟨w.heap.size, 0, none⟩), .pointer (some ⟨w.heap.size + 1, 0, none⟩)]) ∧
      w' = (w.alloc (.cells #[.pointer (some ⟨b, 0, none⟩)] 124)).alloc (.cells #[.string s] 9) := by
  refine callsIn_of_wp Tryz.func109 rfl trivial ?_ rfl
  simp only [Tryz.ntmps109, List.size_toArray, List.length_cons, List.length_nil, Nat.reduceAdd, Nat.reduceSub, Array.replicate_succ, Array.replicate_zero, List.push_toArray, List.append_toArray, List.nil_append, List.cons_append]
  gi_wp2
  go_ret
  exact ⟨rfl, rfl⟩

/-- What is told of the k-th row (of four): its number, and the place in it. -/
def row4 (k : Nat) : Nat := k % 4
def plcR (sd : Nat) (l : List UInt8) (k : Nat) : Nat := sevN sd l k % 64
def plKV (sd : Nat) (l : List UInt8) (k : Nat) : Array Value := #[.int .i64 (row4 k : Nat), .int .i64 (plcR sd l (row4 k) : Nat)]
theorem below_plc (sd : Nat) (l : List UInt8) (k : Nat) : belowN (sevN sd l k) 64 = ((plcR sd l k : Nat) : Int) := by
  unfold belowN plcR
  rw [if_neg (by decide)]
  omega

set_option maxRecDepth 100000 in
set_option maxHeartbeats 4000000 in
theorem placesK1_in (l Bf Bs b sd : Nat) (s : ByteArray) (hs : s.size ≤ 140737488351232) (J Jx : List Nat → World → Prop) (W : World) (hJ : OwnFrom W.heap.size J) (hJx : OwnFrom W.heap.size Jx)
    (hY : ∀ pre x V, J pre V → pre.length < 4 → YieldAt Fence.wide (5 - 1) Tryz.prog l (plKV sd s.data.toList x) V fun e V' =>
      Since W.heap.size V V' ∧ ((e = .returned (.bool true) ∧ J (pre ++ [x]) V') ∨ (e = .returned (.bool false) ∧ Jx (pre ++ [x]) V')))
    (cf : W.cell? ⟨Bf, 0, none⟩ = some (.pointer (some ⟨b, 0, none⟩))) (cs : W.cell? ⟨Bs, 0, none⟩ = some (.string s)) (cd : W.cell? ⟨b, 0, none⟩ = some (.int .u64 sd)) (h0 : J [] W) :
    CallsIn Fence.wide 5 Tryz.prog 135 #[.func (.yield l) #[] #[], .pointer (some ⟨Bf, 0, none⟩), .pointer (some ⟨Bs, 0, none⟩)] W fun e W' => (∃ v, e = .returned v) ∧
      ((∃ ys, ys = List.range 4 ∧ J ys W') ∨ (∃ pre, pre <+: List.range 4 ∧ Jx pre W')) := by
  refine callsIn_of_wp_marks Tryz.func135 rfl trivial ?_ rfl
  simp only [Tryz.ntmps135, List.size_toArray, List.length_cons, List.length_nil, Nat.reduceAdd, Nat.reduceSub, Array.replicate_succ, Array.replicate_zero, List.push_toArray, List.append_toArray, List.nil_append, List.cons_append]
  gi_wp2
  obtain ⟨W1, hW1, bg, sz1, _, cl1, own1⟩ := box1 W (.func (.yield l) #[] #[]) 99
  have cf1 := cl1 _ _ cf
  have cs1 := cl1 _ _ cs
  have cd1 := cl1 _ _ cd
  have j1 := own1 hJ h0
  rw [hW1]
  clear hW1 cl1 own1 cf cs cd h0
  refine Code.wpIn_mono (Meets.imp (b := { tmps := #[.func (.yield l) #[] #[], .pointer (some ⟨Bf, 0, none⟩), .pointer (some ⟨Bs, 0, none⟩), .pointer (some ⟨W.heap.size, 0, none⟩), undef, undef, .pointer (some ⟨b, 0, none⟩), .pointer (some ⟨b, 0, none⟩), .pointer (some ⟨b, 0, none⟩), .int .u64 sd, .string s,
      .func (.func 155) #[] #[.pointer (some ⟨W.heap.size + 1 + 1 + 1, 0, none⟩), .pointer (some ⟨W.heap.size + 1, 0, none⟩), .pointer (some ⟨W.heap.size + 1 + 1, 0, none⟩)], undef, undef, undef, undef, undef, undef, undef, undef], defers := [] })
    (v := (((W1.alloc (.cells #[.int .u64 sd] 22)).alloc (.cells #[.string s] 9)).alloc (.cells #[.int .i64 4] 3)).drew) ?rest) ?region
  case region =>
    gi_region_with (refine ⟨trivial, ?_⟩; gi_at_call 134; refine (severalMk_in (5 - 1) sd s 4 _).mono ?_; rintro e w1 ⟨rfl, rfl⟩)
    all_goals exact ⟨rfl, rfl⟩
  obtain ⟨W2, hW2, bd, bs, bm, sz2, bk2, own2⟩ := boxes3 W1 sd s 4
  have bg2 := bk2 bg
  have j2 := own2 hJ j1
  gi_wp2
  rw [hW2]
  clear hW2 bk2 own2 cf1 cs1 cd1 j1 bg
  rw [sz1] at bd bs bm sz2
  refine wpIn_rangeFunc_ownG rfl (by decide) (gf := 155) (lb := #[.pointer (some ⟨W.heap.size + 1 + 1 + 1, 0, none⟩), .pointer (some ⟨W.heap.size + 1, 0, none⟩), .pointer (some ⟨W.heap.size + 1 + 1, 0, none⟩)]) rfl trivial (enters_of Tryz.func155 (by kernel_rfl) rfl)
    (several_stops_of (5 - 1) (by decide) _ _ _ sd s hs 4 (by decide) (fun x => sevV sd s.data.toList (row4 x)) (fun k hk => by rw [show row4 k = k from Nat.mod_eq_of_lt (show k < 4 from hk)]) W2 (by omega) (by omega) (by omega) bm.cell bd.cell bs.cell) boxesKept_t (boxesKept_b (by omega) (by omega)) (Below.refl _ _) (fun _ => rfl)
    (fun pre V => J pre V ∧ (Boxed V W.heap.size 99 (.func (.yield l) #[] #[]) ∧ (Boxed V (W.heap.size + 1) 22 (.int .u64 sd) ∧ Boxed V (W.heap.size + 1 + 1) 9 (.string s))))
    (fun c pre V => c = .ret ∧ Jx pre V)
    (OwnFrom.and (own_more hJ (by omega)) (OwnFrom.and (Own.from (boxed_own _ _ (fun _ => _)) _) (OwnFrom.and (Own.from (boxed_own _ _ (fun _ => _)) _) (Own.from (boxed_own _ _ (fun _ => _)) _))))
    (fun c => OwnFrom.and (ownFrom_pure _ _) (own_more hJx (by omega)))
    ⟨j2, bg2, bd, bs⟩ ?a1 ?assign ?body ?done ?stop
  case assign =>
    intro l2 x V K hK
    unfold sevV
    gi_wp2
    exact hK
  case body =>
    rintro l2 pre x V ⟨hj, hg, hd, hss⟩ hlt
    have hcg := hg.cell
    obtain ⟨fn, tmps, assign, body, hy, hR⟩ := yield_depth 2 (hY pre x V.drew (own_drew hJ hj) hlt)
    unfold plKV at hy
    have E := hide (below_plc sd s.data.toList (row4 x))
    have hh : sevN sd s.data.toList (row4 x) < 18446744073709551616 := of_lt _ _
    generalize sevN sd s.data.toList (row4 x) = h at *
    generalize row4 x = x4 at *
    have hmix : Tryz.prog.follows .mixedOrders = true := by kernel_rfl
    have hR2 := hR.mono (R' := fun e V' => ∃ q : Bool, e = .returned (.bool q) ∧ Hid (Since W.heap.size V.drew V' ∧ ((q = true ∧ J (pre ++ [x]) V') ∨ (q = false ∧ Jx (pre ++ [x]) V')))) (by
      rintro e V' ⟨h1, ⟨rfl, h2⟩ | ⟨rfl, h2⟩⟩
      · exact ⟨true, rfl, h1, .inl ⟨rfl, h2⟩⟩
      · exact ⟨false, rfl, h1, .inr ⟨rfl, h2⟩⟩)
    clear hR hY
    gi_wp2
    gi_region_with_o (first
      | (refine ⟨trivial, ?_⟩; gi_at_call 120; refine (CallsIn.inRound l2 (callsIn_wide.2 (below_any h hh 64 (by decide) (by decide) _))).mono ?_; rintro e w' ⟨rfl, rfl⟩; rw [E.out])
      | (refine hR2.mono ?_; rintro e V' ⟨q, rfl, HQ⟩))
    all_goals
      obtain ⟨hsn, hq⟩ := HQ.out
      have hsv := (Since.drew W.heap.size V).trans hsn
      clear hsn hy hR2 HQ
      rcases hq with ⟨rfl, hj'⟩ | ⟨rfl, hj'⟩
      · gi_wp2
        exact ⟨hsv.keeps (by omega), boxesKept_of hd hss (hsv.boxed (by omega) hd) (hsv.boxed (by omega) hss), hj', hsv.boxed (by omega) hg, hsv.boxed (by omega) hd, hsv.boxed (by omega) hss⟩
      · gi_wp2
        exact ⟨hsv.keeps (by omega), rfl, hj'⟩
  case done =>
    rintro D ys V hD rfl ⟨hj, hg, hd, hss⟩ hK
    gi_wp2
    refine ⟨by simp, .inl ⟨_, _, rfl, run_takeDeferred hK, ?_⟩⟩
    exact ⟨_, results_none rfl _ _ _, ⟨_, rfl⟩, .inl ⟨_, rfl, own_put hJ _ hj (by omega) hK rfl⟩⟩
  case stop =>
    rintro D c pre V hD hpre ⟨rfl, hj⟩ hK
    gi_wp2
    refine ⟨by simp, .inl ⟨_, _, rfl, run_takeDeferred hK, ?_⟩⟩
    exact ⟨_, results_none rfl _ _ _, ⟨_, rfl⟩, .inr ⟨_, hpre, own_put hJx _ hj (by omega) hK rfl⟩⟩

theorem placesK_own (Bf Bs b sd : Nat) (s : ByteArray) (hs : s.size ≤ 140737488351232) (w : World) (cf : w.cell? ⟨Bf, 0, none⟩ = some (.pointer (some ⟨b, 0, none⟩))) (cs : w.cell? ⟨Bs, 0, none⟩ = some (.string s)) (cd : w.cell? ⟨b, 0, none⟩ = some (.int .u64 sd)) :
    SeqOwn Fence.wide 5 Tryz.prog 135 #[.pointer (some ⟨Bf, 0, none⟩), .pointer (some ⟨Bs, 0, none⟩)] (plKV sd s.data.toList) (fun ys => ys = List.range 4) (fun pre => pre <+: List.range 4) 4 w := fun l J Jx W hW hJ hJx hY h0 =>
  placesK1_in l Bf Bs b sd s hs J Jx W hJ hJx hY ((hW.cell (p := ⟨Bf, 0, none⟩) (block_lt_of_cell cf)).trans cf) ((hW.cell (p := ⟨Bs, 0, none⟩) (block_lt_of_cell cs)).trans cs) ((hW.cell (p := ⟨b, 0, none⟩) (block_lt_of_cell cd)).trans cd) h0
end Go.Proofs.YtckjjfkfapfdaaaGreat

namespace Go.Proofs.YtckjjfkfapfdaaaGreat
open Go.RowKit Go.Shelf
attribute [local go_sem] Oper.semAt_some

theorem boxes4k (w : World) (v : Value) (s : ByteArray) : ∃ V, (((w.alloc (.cells #[v] 124)).alloc (.cells #[.int .i64 15] 3)).alloc (.cells #[v] 124)).alloc (.cells #[.string s] 9) = V ∧
    Boxed V w.heap.size 124 v ∧ Boxed V (w.heap.size + 1) 3 (.int .i64 15) ∧ Boxed V (w.heap.size + 1 + 1) 124 v ∧ Boxed V (w.heap.size + 1 + 1 + 1) 9 (.string s) ∧ V.heap.size = w.heap.size + 4 ∧ w.grownBy V none := by
  refine ⟨_, rfl, ?_⟩
  have b0 := Boxed.new w 124 v
  have b1 := Boxed.new (w.alloc (.cells #[v] 124)) 3 (.int .i64 15)
  have b2 := Boxed.new ((w.alloc (.cells #[v] 124)).alloc (.cells #[.int .i64 15] 3)) 124 v
  have b3 := Boxed.new (((w.alloc (.cells #[v] 124)).alloc (.cells #[.int .i64 15] 3)).alloc (.cells #[v] 124)) 9 (.string s)
  simp only [World.size_alloc] at b1 b2 b3
  exact ⟨((b0.alloc _).alloc _).alloc _, (b1.alloc _).alloc _, b2.alloc _, b3, by simp only [World.size_alloc], gr_trans (gr_trans (gr_trans (World.grownBy_alloc _ _ _) (World.grownBy_alloc _ _ _)) (World.grownBy_alloc _ _ _)) (World.grownBy_alloc _ _ _)⟩

/-- The places of the rows that were told. -/
def plcOf (sd : Nat) (l : List UInt8) (x : Nat) : Nat := plc sd l (row4 x)
theorem plcs_of (sd : Nat) (l : List UInt8) : (List.range 4).map (plcOf sd l) = plcs sd l := rfl
theorem row4_lt (x : Nat) : row4 x < 4 := Nat.mod_lt _ (by decide)
theorem plcR_lt (sd : Nat) (l : List UInt8) (x : Nat) : plcR sd l x < 64 := Nat.mod_lt _ (by decide)
theorem plc_eq (sd : Nat) (l : List UInt8) (x : Nat) : row4 x * 64 + plcR sd l (row4 x) = plcOf sd l x := rfl
theorem cnt_snoc (C : List Nat) (sd : Nat) (l : List UInt8) (pre : List Nat) (x : Nat) : cnt C ((pre ++ [x]).map (plcOf sd l)) = min (cnt C (pre.map (plcOf sd l))) (C.getD (plcOf sd l x) 0) := by
  simp [cnt]

set_option maxRecDepth 100000 in
set_option maxHeartbeats 4000000 in
theorem sk_count {w : World} {b sd : Nat} {st : St} (hF : Sk0 w b sd st) (s : ByteArray) (hs : s.size ≤ 300) : Calls Tryz.prog 137 #[.pointer (some ⟨b, 0, none⟩), .string s] w fun e w' => e = .returned (.int .i64 (cnt st.1 (plcs sd s.data.toList))) ∧ Sk0 w' b sd st ∧ w.grownBy w' none := by
  refine (callsIn_wide (n := 6)).1 ?_
  have hlt := sk_lt hF
  have HS : Hid (cnt st.1 ((List.range 4).map (plcOf sd s.data.toList)) = cnt st.1 (plcs sd s.data.toList)) := rfl
  refine callsIn_of_wp_marks Tryz.func137 rfl trivial ?_ rfl
  simp only [Tryz.ntmps137, List.size_toArray, List.length_cons, List.length_nil, Nat.reduceAdd, Nat.reduceSub, Array.replicate_succ, Array.replicate_zero, List.push_toArray, List.append_toArray, List.nil_append, List.cons_append]
  gi_wp2_with (refine ⟨trivial, ?_⟩; gi_at_call 109; refine (placesKMk_in (6 - 1) b s _).mono ?_; rintro e w1 ⟨rfl, rfl⟩)
  obtain ⟨W0, hW0, bf, br, bf2, bs, sz0, hg0⟩ := boxes4k w (.pointer (some ⟨b, 0, none⟩)) s
  rw [hW0]
  clear hW0
  have hF0 := sk_keep hF (hg0.block b hlt (by simp))
  have hRB : w.heap.size + 1 < W0.heap.size := by omega
  clear sz0
  refine range_own rfl (by decide) (gf := 135) (lb := #[.pointer (some ⟨w.heap.size + 1 + 1, 0, none⟩), .pointer (some ⟨w.heap.size + 1 + 1 + 1, 0, none⟩)]) rfl trivial (enters_of Tryz.func135 (by kernel_rfl) rfl)
    (placesK_own _ _ b sd s (Nat.le_trans hs (by decide)) W0 bf2.cell bs.cell (blk_seed hF0.2.2)) (Below.refl _ _) (fun _ => rfl)
    (fun (pre : List Nat) V => Boxed V w.heap.size 124 (.pointer (some ⟨b, 0, none⟩)) ∧ (Boxed V (w.heap.size + 1) 3 (.int .i64 (cnt st.1 (pre.map (plcOf sd s.data.toList)) : Nat)) ∧ w.grownBy V none))
    (fun _ _ _ => False)
    (OwnFrom.and (Own.from (boxed_own _ _ (fun _ => _)) _) (OwnFrom.and (Own.from (boxed_own _ _ (fun (pre : List Nat) => .int .i64 (cnt st.1 (pre.map (plcOf sd s.data.toList)) : Nat))) _) (own_grown hg0.size)))
    (fun _ _ _ _ _ hs _ _ => hs)
    ⟨bf, br, hg0⟩ ?a1 ?assign ?body ?done ?stop
  case assign =>
    intro l2 x V K hK
    unfold plKV
    gi_wp2
    exact hK
  case body =>
    rintro l2 pre x V ⟨hbf, hbr, hg⟩ hlen
    have hFV := sk_keep hF (hg.block b hlt (by simp))
    have hcf := hbf.cell
    have hcr := hbr.cell
    have hfr := hbr.frozen
    have hmix : Tryz.prog.follows .mixedOrders = true := by kernel_rfl
    have hwf : ∀ f, Fence.wide.fn f := fun _ => trivial
    have HC : ∀ k : Nat, CallsIn Fence.wide (4 - 1) Tryz.prog 110 #[.pointer (some ⟨b, 0, none⟩), .int .i64 (row4 x : Nat), .int .i64 (plcR sd s.data.toList (row4 x) : Nat)] (V.drewN k) fun e w' => e = .returned (.int .i64 ((st.1.getD (plcOf sd s.data.toList x) 0 : Nat) : Int)) ∧ ∃ m, w' = (V.drewN k).drewN m := fun k => callsIn_wide.2 (sk_counter (w := V.drewN k) (sk_keep hFV rfl) (row4 x) (plcR sd s.data.toList (row4 x)) (row4_lt x) (plcR_lt _ _ _))
    have HM := hide (cnt_snoc st.1 sd s.data.toList pre x)
    generalize cnt st.1 (pre.map (plcOf sd s.data.toList)) = n at *
    generalize st.1.getD (plcOf sd s.data.toList x) 0 = c at *
    generalize plcR sd s.data.toList (row4 x) = p at *
    generalize hr4 : row4 x = r at *
    clear hFV hr4
    gi_wp2
    refine region_tail 6 _ l2 rfl rfl (by kernel_rfl) (by kernel_rfl) ?_
    simp only [List.take_succ_cons, List.take_zero]
    repeat (gi_big_quiet_step ((gi_at_call 110; exact CallsIn.quiet_of (HC _))))
    refine wpQuietIn_nil ?_
    rintro _ ⟨nq, rfl⟩
    go_simp
    gi_wp2
    · refine ⟨(since_drewN _ V nq).trans (since_set _ _ hRB), boxed_set hbf (Nat.ne_of_lt (Nat.lt_succ_self _)) _, ?_, gr_new (gr_drewN hg nq) (grownBy_setCell' _ _ _) (Nat.le_succ _)⟩
      rw [HM.out, Nat.min_eq_right (Nat.le_of_lt h)]
      exact Boxed.set _ (show Boxed (V.drewN nq) _ _ _ from hbr)
    · refine ⟨(since_drewN _ V nq).trans (since_set _ _ hRB), boxed_set hbf (Nat.ne_of_lt (Nat.lt_succ_self _)) _, ?_, gr_new (gr_drewN hg nq) (grownBy_setCell' _ _ _) (Nat.le_succ _)⟩
      rw [HM.out, Nat.min_eq_left (Nat.le_of_not_lt h)]
      exact Boxed.set _ (show Boxed (V.drewN nq) _ _ _ from hbr)
  case done =>
    rintro D ys V hD rfl ⟨hbf, hbr, hg⟩ hK
    have hcr := hbr.cell
    rw [HS.out] at hcr
    have hg2 := gr_new hg (grownBy_putObj' V D (.deferred none)) (Nat.le_trans hg0.size hD)
    obtain ⟨n, hn⟩ : ∃ n, n = cnt st.1 (plcs sd s.data.toList) := ⟨_, rfl⟩
    rw [← hn] at hcr
    have HN := hide hn
    clear hn
    gi_wp2
    refine ⟨by simp, .inl ⟨_, _, rfl, run_takeDeferred hK, ?_⟩⟩
    exact ⟨_, results_tmp rfl _ _ _, by rw [← HN.out]; rfl, sk_keep hF (hg2.block b hlt (by simp)), hg2⟩
  case stop =>
    rintro D c pre V _ _ h _
    exact h.elim
end Go.Proofs.YtckjjfkfapfdaaaGreat
