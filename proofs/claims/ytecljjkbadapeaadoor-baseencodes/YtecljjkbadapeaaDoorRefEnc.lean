/- The document's own Encode (butteryref02): the same text of the bytes. Conditions: at most 100000 bytes. -/
import Derived.Test.YtecljjkbadapeaaDoorEnc
namespace Go.Proofs.YtecljjkbadapeaaDoor
open Go.RowKit

theorem sgv : ∀ n, n < 64 → (sigB.getD n 0).toNat = if n < 26 then 65 + n else if n < 52 then 97 + n - 26 else if n < 62 then 48 + n - 52 else if n = 62 then 43 else 47 := by decide +kernel

set_option maxHeartbeats 1000000 in
theorem sign_nat (n : Nat) (h : n < 64) (w : World) : Calls Tryd.prog 18 #[.int .i64 n] w fun e w' => e = .returned (.int .u8 ((sg n).toNat : Int)) ∧ w' = w := by
  have HV : Hid (((sg n).toNat : Int) = if n < 26 then 65 + (n : Int) else if n < 52 then 97 + (n : Int) - 26 else if n < 62 then 48 + (n : Int) - 52 else if n = 62 then 43 else 47) := by
    show _ = _
    have e : sg n = sigB.getD n 0 := by unfold sg; rw [Int.toNat_natCast]
    rw [e, sgv n h]
    repeat' split
    all_goals omega
  by_cases h1 : n < 26
  · have i1 : (n : Int) < 26 := by omega
    rw [HV.out, if_pos h1]
    go_enter Tryd.func18, Tryd.ntmps18
    go_wp2
    go_ret
    exact ⟨rfl, rfl⟩
  · have i1 : (26 : Int) ≤ (n : Int) := by omega
    by_cases h2 : n < 52
    · have i2 : (n : Int) < 52 := by omega
      rw [HV.out, if_neg h1, if_pos h2]
      go_enter Tryd.func18, Tryd.ntmps18
      go_wp2
      go_ret
      exact ⟨rfl, rfl⟩
    · have i2 : (52 : Int) ≤ (n : Int) := by omega
      by_cases h3 : n < 62
      · have i3 : (n : Int) < 62 := by omega
        rw [HV.out, if_neg h1, if_neg h2, if_pos h3]
        go_enter Tryd.func18, Tryd.ntmps18
        go_wp2
        go_ret
        exact ⟨rfl, rfl⟩
      · have i3 : (62 : Int) ≤ (n : Int) := by omega
        by_cases h4 : n = 62
        · rw [HV.out, if_neg h1, if_neg h2, if_neg h3, if_pos h4]
          subst h4
          clear HV h h1 h2 h3 i1 i2 i3
          go_enter Tryd.func18, Tryd.ntmps18
          go_wp2
          go_ret
          exact ⟨rfl, rfl⟩
        · have h5 : n = 63 := by omega
          rw [HV.out, if_neg h1, if_neg h2, if_neg h3, if_neg h4]
          subst h5
          clear HV h h1 h2 h3 h4 i1 i2 i3
          go_enter Tryd.func18, Tryd.ntmps18
          go_wp2
          go_ret
          exact ⟨rfl, rfl⟩
theorem sign_int (n : Int) (h0 : 0 ≤ n) (h : n < 64) (w : World) : Calls Tryd.prog 18 #[.int .i64 n] w fun e w' => e = .returned (.int .u8 ((sg n).toNat : Int)) ∧ w = w' := by
  obtain ⟨m, rfl⟩ := Int.eq_ofNat_of_zero_le h0
  exact (sign_nat m (by omega) w).mono fun e w' ⟨h1, h2⟩ => ⟨h1, h2.symm⟩

theorem four3 (x y z : Int) (hy : 0 ≤ y ∧ y ≤ 255) (hz : 0 ≤ z ∧ z ≤ 255) : encB [x, y, z] = [sg ((x * 65536 + y * 256 + z) / 262144), sg ((x * 65536 + y * 256 + z) / 4096 % 64), sg ((x * 65536 + y * 256 + z) / 64 % 64), sg ((x * 65536 + y * 256 + z) % 64)] := by
  have e1 : (x * 65536 + y * 256 + z) / 262144 = x / 4 := by omega
  have e2 : (x * 65536 + y * 256 + z) / 4096 % 64 = x % 4 * 16 + y / 16 := by omega
  have e3 : (x * 65536 + y * 256 + z) / 64 % 64 = y % 16 * 4 + z / 64 := by omega
  have e4 : (x * 65536 + y * 256 + z) % 64 = z % 64 := by omega
  rw [e1, e2, e3, e4]
  simp [encB, encBody, fillN]
theorem four2 (x y : Int) (hy : 0 ≤ y ∧ y ≤ 255) : encB [x, y] = [sg ((x * 65536 + y * 256) / 262144), sg ((x * 65536 + y * 256) / 4096 % 64), sg ((x * 65536 + y * 256) / 64 % 64), 61] := by
  have e1 : (x * 65536 + y * 256) / 262144 = x / 4 := by omega
  have e2 : (x * 65536 + y * 256) / 4096 % 64 = x % 4 * 16 + y / 16 := by omega
  have e3 : (x * 65536 + y * 256) / 64 % 64 = y % 16 * 4 := by omega
  rw [e1, e2, e3]
  rfl
theorem four1 (x : Int) : encB [x] = [sg (x * 65536 / 262144), sg (x * 65536 / 4096 % 64), 61, 61] := by
  have e1 : x * 65536 / 262144 = x / 4 := by omega
  have e2 : x * 65536 / 4096 % 64 = x % 4 * 16 := by omega
  rw [e1, e2]
  rfl
theorem enc_nil : encB [] = [] := by decide
theorem enc_take (es : List Int) (p : Nat) (h3 : p % 3 = 0) (hp : p ≤ es.length) : encB (es.take (p + 3)) = encB (es.take p) ++ encB ((es.drop p).take 3) := by
  rw [List.take_add, enc_join _ _ (by rw [List.length_take]; omega)]
theorem row_four {w : World} {base n : Nat} {v : Value} {es : List Int} {p : Nat} {a b c d : UInt8} (h : w.ownsRow base 5 1 v (n + 4) (cs (ints (encB (es.take p))) ++ [.int .u8 (a.toNat : Int), .int .u8 (b.toNat : Int), .int .u8 (c.toNat : Int), .int .u8 (d.toNat : Int)]))
    (hn : n = (encB (es.take p)).length) (h3 : p % 3 = 0) (hp : p ≤ es.length) (he : encB ((es.drop p).take 3) = [a, b, c, d]) : w.ownsRow base 5 1 v (encB (es.take (p + 3))).length (cs (ints (encB (es.take (p + 3))))) := by
  rw [enc_take es p h3 hp, he, ints_app, cs_app, List.length_append, ← hn]
  exact h
theorem cell_four_new (w : World) (a b c d : Value) (t : TypeId) : ∀ j u, [a, b, c, d][j]? = some u → (w.alloc (.cells #[a, b, c, d] t)).cell? ((⟨w.heap.size, 0, none⟩ : Addr).add j) = some u := by
  intro j u hj
  have hh : (w.alloc (.cells #[a, b, c, d] t)).heap[w.heap.size]? = some (.cells #[a, b, c, d] t) := by
    show (w.heap.push _)[w.heap.size]? = _
    simp
  rw [add_at, Nat.zero_add]
  unfold World.cell?
  rw [hh]
  show (#[a, b, c, d] : Array Value)[j]? = some u
  rw [← hj]
  simp

set_option maxHeartbeats 4000000 in
theorem refEncode_row (w : World) (a : Option Addr) (len cap b off : Nat) (es : List Int) (h : Row1 w a len cap es b off) (hl : len ≤ 100000) :
    Calls Tryd.prog 13 #[.slice (some ⟨b, off, none⟩) len cap] w fun e w' => e = .returned (.string ⟨(encB es).toArray⟩) ∧ Below w.heap.size w w' := by
  obtain ⟨i0, hi, hz0, hz1, hz2⟩ := info_parts info_u8
  have hcap := h.cap_
  have hone := h.one
  have hlen := h.len_
  have H := hide h
  clear h
  go_enter Tryd.func13, Tryd.ntmps13
  go_wp2
  go_loopw [3, 4] (fun u i wr => ∃ p : Nat, p % 3 = 0 ∧ p ≤ len + 2 ∧ i = .int .i64 p ∧ wr.ownsRow w.heap.size 5 1 u (encB (es.take p)).length (cs (ints (encB (es.take p)))) ∧ Below w.heap.size w wr)
    (fun _ i _ => len + 2 - (intOf i).toNat)
  case atStart => exact ⟨0, rfl, Nat.zero_le _, rfl, by rw [List.take_zero, enc_nil]; exact World.ownsRow_nil _ _ _ _, Below.refl _ _⟩
  case round =>
    obtain ⟨p, hp3, hpl, rfl, ho, hb⟩ := hrel
    have hsz := hb.size
    have hlenr : (encB (es.take p)).length ≤ 200000 := by rw [enc_len, List.length_take]; omega
    obtain ⟨L, hL⟩ : ∃ L, L = (encB (es.take p)).length := ⟨_, rfl⟩
    rw [← hL] at ho hlenr
    have HL := hide hL
    have HO := hide ho
    clear ho hL
    by_cases hlt : p < len
    · have hbd : ∀ j, 0 ≤ es.getD j 0 ∧ es.getD j 0 ≤ 255 := fun j => by
        rcases Nat.lt_or_ge j es.length with hj | hj
        · have e : es.getD j 0 = es[j] := by simp [List.getD, List.getElem?_eq_getElem hj]
          rw [e]
          exact H.out.bd _ (List.getElem_mem hj)
        · have e : es.getD j 0 = 0 := by simp [List.getD, List.getElem?_eq_none hj]
          rw [e]
          omega
      have hcell : ∀ j, j < len → wr.cell? ⟨b, off + j, none⟩ = some (.int .u8 (es.getD j 0)) := fun j hj => (hb.cell (p := ⟨b, off + j, none⟩) H.out.old).trans (H.out.cell j hj)
      have hd : ∀ j, j < es.length → es.drop j = es.getD j 0 :: es.drop (j + 1) := fun j hj => by
        rw [List.drop_eq_getElem_cons hj]
        simp [List.getD, List.getElem?_eq_getElem hj]
      have c0 := hcell p hlt
      obtain ⟨x, hx⟩ : ∃ x, x = es.getD p 0 := ⟨_, rfl⟩
      have bx := hbd p
      rw [← hx] at c0 bx
      obtain ⟨bx0, bx1⟩ := bx
      by_cases h2 : p + 1 < len
      · have c1 := hcell (p + 1) h2
        obtain ⟨y, hy⟩ : ∃ y, y = es.getD (p + 1) 0 := ⟨_, rfl⟩
        have bY := hbd (p + 1)
        rw [← hy] at c1 bY
        obtain ⟨by0, by1⟩ := bY
        by_cases h3 : p + 2 < len
        · have c2 := hcell (p + 2) h3
          obtain ⟨z, hz⟩ : ∃ z, z = es.getD (p + 2) 0 := ⟨_, rfl⟩
          have bZ := hbd (p + 2)
          rw [← hz] at c2 bZ
          obtain ⟨bZ0, bZ1⟩ := bZ
          have HP : Hid ((es.drop p).take 3 = [x, y, z]) := by
            show _ = _
            rw [hd p (by omega), hd (p + 1) (by omega), hd (p + 1 + 1) (by omega), hx, hy, hz]
            rfl
          clear hd hcell hbd hx hy hz
          go_wp2_with (go_at_call 18; refine (sign_int _ (by omega) (by omega) _).mono ?_; rintro e w' ⟨rfl, rfl⟩)
          refine wp_loop_rounds 1 ?_
          rw [rounds_succ]
          go_wp2_with (at_builtin; refine wpList_append_own _ rfl _ _ 22 rfl w.heap.size 5 i0 (.int .u8 0) 1 1 Tryd.underlying22 hi hz0 hz1 hz2 rfl (by decide) _ _ _ rfl (HO.out.alloc _) ⟨wr.heap.size, 0, none⟩ 4 4 [_, _, _, _] rfl rfl (cell_four_new _ _ _ _ _ _) (by simp [Value.oneCell']) (by unfold maxLen; omega) (by omega) (by simp; omega) ?_; intro v' w1 hown' hgrow _)
          have hgb := grown_below (HO.out.alloc _) hgrow (by simp; omega)
          go_roundw
          case rel => exact ⟨p + 3, by omega, by omega, by go_num, row_four hown' HL.out hp3 (by omega) (by rw [HP.out]; exact four3 x y z ⟨by0, by1⟩ ⟨bZ0, bZ1⟩), (hb.alloc hsz _).trans hgb⟩
          case measure => first | (simp [intOf]; done) | (simp [intOf]; omega)
        · have HP : Hid ((es.drop p).take 3 = [x, y]) := by
            show _ = _
            rw [hd p (by omega), hd (p + 1) (by omega), List.drop_of_length_le (by omega), hx, hy]
            rfl
          clear hd hcell hbd hx hy
          go_wp2_with (go_at_call 18; refine (sign_int _ (by omega) (by omega) _).mono ?_; rintro e w' ⟨rfl, rfl⟩)
          refine wp_loop_rounds 2 ?_
          rw [rounds_succ]
          go_wp2
          rw [rounds_succ]
          go_wp2_with (at_builtin; refine wpList_append_own _ rfl _ _ 22 rfl w.heap.size 5 i0 (.int .u8 0) 1 1 Tryd.underlying22 hi hz0 hz1 hz2 rfl (by decide) _ _ _ rfl (HO.out.alloc _) ⟨wr.heap.size, 0, none⟩ 4 4 [_, _, _, _] rfl rfl (cell_four_new _ _ _ _ _ _) (by simp [Value.oneCell']) (by unfold maxLen; omega) (by omega) (by simp; omega) ?_; intro v' w1 hown' hgrow _)
          have hgb := grown_below (HO.out.alloc _) hgrow (by simp; omega)
          go_roundw
          case rel => exact ⟨p + 3, by omega, by omega, by go_num, row_four hown' HL.out hp3 (by omega) (by rw [HP.out]; exact four2 x y ⟨by0, by1⟩), (hb.alloc hsz _).trans hgb⟩
          case measure => first | (simp [intOf]; done) | (simp [intOf]; omega)
      · have HP : Hid ((es.drop p).take 3 = [x]) := by
          show _ = _
          rw [hd p (by omega), List.drop_of_length_le (by omega), hx]
          rfl
        clear hd hcell hbd hx
        go_wp2_with (go_at_call 18; refine (sign_int _ (by omega) (by omega) _).mono ?_; rintro e w' ⟨rfl, rfl⟩)
        refine wp_loop_rounds 3 ?_
        rw [rounds_succ]
        go_wp2
        rw [rounds_succ]
        go_wp2
        rw [rounds_succ]
        go_wp2_with (at_builtin; refine wpList_append_own _ rfl _ _ 22 rfl w.heap.size 5 i0 (.int .u8 0) 1 1 Tryd.underlying22 hi hz0 hz1 hz2 rfl (by decide) _ _ _ rfl (HO.out.alloc _) ⟨wr.heap.size, 0, none⟩ 4 4 [_, _, _, _] rfl rfl (cell_four_new _ _ _ _ _ _) (by simp [Value.oneCell']) (by unfold maxLen; omega) (by omega) (by simp; omega) ?_; intro v' w1 hown' hgrow _)
        have hgb := grown_below (HO.out.alloc _) hgrow (by simp; omega)
        go_roundw
        case rel => exact ⟨p + 3, by omega, by omega, by go_num, row_four hown' HL.out hp3 (by omega) (by rw [HP.out]; exact four1 x), (hb.alloc hsz _).trans hgb⟩
        case measure => first | (simp [intOf]; done) | (simp [intOf]; omega)
    · have HX : Hid (es.take p = es) := List.take_of_length_le (by omega)
      have hcv := conv_own HO.out (ints_byt _)
      rw [strOf_ints, HX.out] at hcv
      go_wp2
      go_ret
      exact ⟨rfl, hb⟩

set_option maxHeartbeats 2000000 in
theorem refEncode_none (w : World) (a : Option Addr) (cap : Nat) :
    Calls Tryd.prog 13 #[.slice a 0 cap] w fun e w' => e = .returned (.string ⟨(encB []).toArray⟩) ∧ Below w.heap.size w w' := by
  have hcv := conv_own (w := w) (zs := []) (World.ownsRow_nil w w.heap.size 5 1) (fun z hz => by cases hz)
  go_enter Tryd.func13, Tryd.ntmps13
  go_wp2
  refine wp_loop_rounds 1 ?_
  rw [rounds_succ]
  go_wp2
  go_ret
  exact ⟨by rw [enc_nil]; rfl, Below.refl _ _⟩

/-- The document's Encode of bytes that lie in memory. -/
theorem refEncode_any {w : World} {a : Option Addr} {len cap : Nat} {es : List Int} (h : Bs w a len cap es) (hl : len ≤ 100000) :
    Calls Tryd.prog 13 #[.slice a len cap] w fun e w' => e = .returned (.string ⟨(encB es).toArray⟩) ∧ Below w.heap.size w w' := by
  rcases h with ⟨rfl, rfl, _⟩ | ⟨b, off, r⟩
  · exact refEncode_none w a cap
  · rw [r.at_]
    exact refEncode_row w a len cap b off es r hl
end Go.Proofs.YtecljjkbadapeaaDoor
