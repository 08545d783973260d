/- What appendSigns of package base answers: to a row of the call's own come the signs of one to three bytes. Conditions: the bytes lie ahead of that row. -/
import Derived.Test.YtecljjkbadapeaaDoorCore
import Derived.Laws.Bits64
namespace Go.Proofs.YtecljjkbadapeaaDoor
open Go.RowKit

theorem i64_or (m : Nat) (A B : Nat) (hd : A % 2 ^ m = 0) (hb : B < 2 ^ m) (hs : A + B < 9223372036854775808) : bits .or .i64 (A : Int) (B : Int) = (A : Int) + (B : Int) := by
  have h1 : (BitVec.ofInt 64 (A : Int)).toNat = A := by
    rw [BitVec.ofInt_natCast, BitVec.toNat_ofNat]; exact Nat.mod_eq_of_lt (by omega)
  have h2 : (BitVec.ofInt 64 (B : Int)).toNat = B := by
    rw [BitVec.ofInt_natCast, BitVec.toNat_ofNat]; exact Nat.mod_eq_of_lt (by omega)
  have h3 : A ||| B = A + B := by
    have e : A = 2 ^ m * (A / 2 ^ m) := by have := Nat.div_add_mod A (2 ^ m); omega
    rw [e, ← Nat.two_pow_add_eq_or_of_lt hb]
  show IntKind.i64.wrap ((BitVec.ofInt 64 (A : Int) ||| BitVec.ofInt 64 (B : Int)).toNat : Int) = _
  rw [BitVec.toNat_or, h1, h2, h3, IntKind.wrap_i64]
  omega
theorem i64_or_int (m : Nat) (M : Int) (hM : M = (2 ^ m : Nat)) (A B : Int) (h0 : 0 ≤ A) (hd : A % M = 0) (hb0 : 0 ≤ B) (hb : B < M) (hs : A + B < 9223372036854775808) : bits .or .i64 A B = A + B := by
  obtain ⟨a, rfl⟩ := Int.eq_ofNat_of_zero_le h0
  obtain ⟨b, rfl⟩ := Int.eq_ofNat_of_zero_le hb0
  subst hM
  exact i64_or m a b (by exact_mod_cast hd) (by exact_mod_cast hb) (by omega)
theorem i64_and (m : Nat) (M : Int) (hM : M = (2 ^ m : Nat)) (hm : m < 63) (A : Int) (h0 : 0 ≤ A) (hs : A < 9223372036854775808) : bits .and .i64 A (M - 1) = A % M := by
  obtain ⟨a, rfl⟩ := Int.eq_ofNat_of_zero_le h0
  have hp : 2 ^ m < 2 ^ 63 := Nat.pow_lt_pow_right (by decide) hm
  have hp0 : 0 < 2 ^ m := Nat.two_pow_pos m
  have hp63 : (2 : Nat) ^ 63 = 9223372036854775808 := by decide
  have e : M - 1 = ((2 ^ m - 1 : Nat) : Int) := by omega
  have h1 : (BitVec.ofInt 64 (a : Int)).toNat = a := by
    rw [BitVec.ofInt_natCast, BitVec.toNat_ofNat]; exact Nat.mod_eq_of_lt (by omega)
  have h2 : (BitVec.ofInt 64 ((2 ^ m - 1 : Nat) : Int)).toNat = 2 ^ m - 1 := by
    rw [BitVec.ofInt_natCast, BitVec.toNat_ofNat]; exact Nat.mod_eq_of_lt (by omega)
  rw [e]
  show IntKind.i64.wrap ((BitVec.ofInt 64 (a : Int) &&& BitVec.ofInt 64 ((2 ^ m - 1 : Nat) : Int)).toNat : Int) = _
  have h3 := Nat.mod_lt a hp0
  rw [BitVec.toNat_and, h1, h2, Nat.and_two_pow_sub_one_eq_mod, IntKind.wrap_i64, hM]
  omega
theorem wrap_small (x : Int) (h0 : 0 ≤ x) (h1 : x < 9223372036854775808) : wrap64 x = x := by
  unfold wrap64; omega

/-- The number of the first j of three bytes, the highest first, noughts behind. -/
def n24 (x y z : Int) : Nat → Int
  | 0 => 0
  | 1 => x * 65536
  | 2 => x * 65536 + y * 256
  | _ => x * 65536 + y * 256 + z
def sgs (N : Int) : List Int := [((sg (N / 262144 % 64)).toNat : Int), ((sg (N / 4096 % 64)).toNat : Int), ((sg (N / 64 % 64)).toNat : Int), ((sg (N % 64)).toNat : Int)]

theorem sig_fin : ∀ m : Fin 64, (⟨#[65, 66, 67, 68, 69, 70, 71, 72, 73, 74, 75, 76, 77, 78, 79, 80, 81, 82, 83, 84, 85, 86, 87, 88, 89, 90, 97, 98, 99, 100, 101, 102, 103, 104, 105, 106, 107, 108, 109, 110, 111, 112, 113, 114, 115, 116, 117, 118, 119, 120, 121, 122, 48, 49, 50, 51, 52, 53, 54, 55, 56, 57, 43, 47]⟩ : ByteArray)[m.val]'(m.isLt) = sg (m.val : Int) := by decide +kernel
theorem sig_at (m : Nat) (h : m < 64) (hh : m < (⟨#[65, 66, 67, 68, 69, 70, 71, 72, 73, 74, 75, 76, 77, 78, 79, 80, 81, 82, 83, 84, 85, 86, 87, 88, 89, 90, 97, 98, 99, 100, 101, 102, 103, 104, 105, 106, 107, 108, 109, 110, 111, 112, 113, 114, 115, 116, 117, 118, 119, 120, 121, 122, 48, 49, 50, 51, 52, 53, 54, 55, 56, 57, 43, 47]⟩ : ByteArray).size) : (⟨#[65, 66, 67, 68, 69, 70, 71, 72, 73, 74, 75, 76, 77, 78, 79, 80, 81, 82, 83, 84, 85, 86, 87, 88, 89, 90, 97, 98, 99, 100, 101, 102, 103, 104, 105, 106, 107, 108, 109, 110, 111, 112, 113, 114, 115, 116, 117, 118, 119, 120, 121, 122, 48, 49, 50, 51, 52, 53, 54, 55, 56, 57, 43, 47]⟩ : ByteArray)[m]'hh = sg (m : Int) := sig_fin ⟨m, h⟩
theorem cs_snoc (a : List Int) (z : Int) : cs a ++ [Value.int .u8 z] = cs (a ++ [z]) := by rw [cs_app]; rfl

set_option maxHeartbeats 2000000 in
theorem signs_any (w : World) (base : Nat) (v : Value) (n : Nat) (xs : List Int) (ho : w.ownsRow base 5 1 v n (cs xs)) (hb : base ≤ w.heap.size) (hn : n ≤ 1000000)
    (b off k cap : Nat) (x y z : Int) (h1 : 1 ≤ k) (h3 : k ≤ 3) (hcap : k ≤ cap) (hx : 0 ≤ x ∧ x ≤ 255) (hy : 0 ≤ y ∧ y ≤ 255) (hz : 0 ≤ z ∧ z ≤ 255)
    (c0 : w.cell? ⟨b, off, none⟩ = some (.int .u8 x)) (c1 : 1 < k → w.cell? ⟨b, off + 1, none⟩ = some (.int .u8 y)) (c2 : 2 < k → w.cell? ⟨b, off + 2, none⟩ = some (.int .u8 z)) :
    Calls Tryd.prog 17 #[v, .slice (some ⟨b, off, none⟩) k cap] w fun e w' => ∃ v', e = .returned v' ∧
      w'.ownsRow base 5 1 v' (n + (k + 1)) (cs (xs ++ (sgs (n24 x y z k)).take (k + 1))) ∧ Below base w w' := by
  obtain ⟨i0, hi, hz0, hz1, hz2⟩ := info_parts info_u8
  have o1 : bits .or .i64 0 (x * 65536) = x * 65536 := by have := i64_or_int 24 16777216 (by decide) 0 (x * 65536) (by omega) (by omega) (by omega) (by omega) (by omega); omega
  have o2 : bits .or .i64 (x * 65536) (y * 256) = x * 65536 + y * 256 := i64_or_int 16 65536 (by decide) _ _ (by omega) (by omega) (by omega) (by omega) (by omega)
  have o3 : bits .or .i64 (x * 65536 + y * 256) z = x * 65536 + y * 256 + z := i64_or_int 8 256 (by decide) _ _ (by omega) (by omega) (by omega) (by omega) (by omega)
  have O1 := hide o1
  have O2 := hide o2
  have O3 := hide o3
  clear o1 o2 o3
  have C1 := hide c1
  have C2 := hide c2
  clear c1 c2
  go_enter Tryd.func17, Tryd.ntmps17
  go_wp2
  go_loop [5, 10] (fun m i => ∃ j : Nat, j ≤ k ∧ i = .int .i64 j ∧ m = .int .i64 (n24 x y z j)) (fun _ i => k - (intOf i).toNat)
  case atStart => exact ⟨0, Nat.zero_le _, rfl, rfl⟩
  case round =>
    obtain ⟨j, hj, rfl, rfl⟩ := hrel
    by_cases hlt : j < k
    · obtain rfl | rfl | rfl : j = 0 ∨ j = 1 ∨ j = 2 := by omega
      · go_wp2
        go_round
        case rel => exact ⟨1, by omega, rfl, congrArg _ O1.out⟩
        case measure => simp [intOf]; omega
      · have c1 := C1.out hlt
        go_wp2
        go_round
        case rel => exact ⟨2, by omega, rfl, congrArg _ O2.out⟩
        case measure => simp [intOf]; omega
      · have c2 := C2.out hlt
        go_wp2
        go_round
        case rel => exact ⟨3, by omega, rfl, congrArg _ O3.out⟩
        case measure => simp [intOf]; omega
    · have hjk : j = k := by omega
      subst hjk
      go_wp2
      obtain ⟨N, hN⟩ : ∃ N, N = n24 x y z j := ⟨_, rfl⟩
      have hNb : 0 ≤ N ∧ N < 16777216 := by
        obtain rfl | rfl | rfl : j = 1 ∨ j = 2 ∨ j = 3 := by omega
        · simp only [n24] at hN; omega
        · simp only [n24] at hN; omega
        · simp only [n24] at hN; omega
      rw [← hN]
      have HN := hide hN
      clear hN
      obtain ⟨m0, M0⟩ : ∃ m : Nat, (m : Int) = N / 262144 % 64 := ⟨(N / 262144 % 64).toNat, by omega⟩
      obtain ⟨m1, M1⟩ : ∃ m : Nat, (m : Int) = N / 4096 % 64 := ⟨(N / 4096 % 64).toNat, by omega⟩
      obtain ⟨m2, M2⟩ : ∃ m : Nat, (m : Int) = N / 64 % 64 := ⟨(N / 64 % 64).toNat, by omega⟩
      obtain ⟨m3, M3⟩ : ∃ m : Nat, (m : Int) = N % 64 := ⟨(N % 64).toNat, by omega⟩
      have b0 : m0 < 64 := by omega
      have b1 : m1 < 64 := by omega
      have b2 : m2 < 64 := by omega
      have b3 : m3 < 64 := by omega
      have a0 : bits .and .i64 (N / 262144) 63 = (m0 : Int) := by rw [M0]; exact i64_and 6 64 (by decide) (by decide) _ (by omega) (by omega)
      have a1 : bits .and .i64 (N / 4096) 63 = (m1 : Int) := by rw [M1]; exact i64_and 6 64 (by decide) (by decide) _ (by omega) (by omega)
      have a2 : bits .and .i64 (N / 64) 63 = (m2 : Int) := by rw [M2]; exact i64_and 6 64 (by decide) (by decide) _ (by omega) (by omega)
      have a3 : bits .and .i64 N 63 = (m3 : Int) := by rw [M3]; exact i64_and 6 64 (by decide) (by decide) _ (by omega) (by omega)
      have HM : Hid (sgs N = [((sg m0).toNat : Int), ((sg m1).toNat : Int), ((sg m2).toNat : Int), ((sg m3).toNat : Int)]) := by show _ = _; unfold sgs; rw [M0, M1, M2, M3]
      clear M0 M1 M2 M3
      go_loopw [0, 28] (fun u i wr => ∃ m : Nat, m ≤ j + 1 ∧ i = .int .i64 m ∧ wr.ownsRow base 5 1 u (n + m) (cs (xs ++ (sgs N).take m)) ∧ Below base w wr)
        (fun _ i _ => j + 1 - (intOf i).toNat)
      case atStart => exact ⟨0, Nat.zero_le _, rfl, by simpa using ho, Below.refl _ _⟩
      case round =>
        obtain ⟨m, hm, rfl, hown, hbl⟩ := hrel
        have HO := hide hown
        have hsz : base ≤ wr.heap.size := Nat.le_trans hb hbl.size
        by_cases hmt : m < j + 1
        · clear hown
          obtain rfl | rfl | rfl | rfl : m = 0 ∨ m = 1 ∨ m = 2 ∨ m = 3 := by omega
          · go_wp2_with (at_builtin; refine wpList_append_own _ rfl _ _ 22 rfl base 5 i0 (.int .u8 0) 1 1 Tryd.underlying22 hi hz0 hz1 hz2 rfl (by decide) _ _ _ rfl (HO.out.alloc _) ⟨wr.heap.size, 0, none⟩ 1 1 [_] rfl rfl (cell_one_new _ _ _) (by simp [Value.oneCell']) (by unfold maxLen; omega) (by omega) (by simp; omega) ?_; intro v' w1 hown' hgrow _)
            have hgb := grown_below (HO.out.alloc _) hgrow (by simp; omega)
            rw [sig_at m0 b0] at hown'
            go_roundw
            case rel => exact ⟨1, by omega, by go_num, by rw [HM.out] at hown' ⊢; rw [cs_snoc, List.append_assoc] at hown'; exact hown', (hbl.alloc hsz _).trans hgb⟩
            case measure => first | (simp [intOf]; done) | (simp [intOf]; omega)
          · go_wp2_with (at_builtin; refine wpList_append_own _ rfl _ _ 22 rfl base 5 i0 (.int .u8 0) 1 1 Tryd.underlying22 hi hz0 hz1 hz2 rfl (by decide) _ _ _ rfl (HO.out.alloc _) ⟨wr.heap.size, 0, none⟩ 1 1 [_] rfl rfl (cell_one_new _ _ _) (by simp [Value.oneCell']) (by unfold maxLen; omega) (by omega) (by simp; omega) ?_; intro v' w1 hown' hgrow _)
            have hgb := grown_below (HO.out.alloc _) hgrow (by simp; omega)
            rw [sig_at m1 b1] at hown'
            go_roundw
            case rel => exact ⟨2, by omega, by go_num, by rw [HM.out] at hown' ⊢; rw [cs_snoc, List.append_assoc] at hown'; exact hown', (hbl.alloc hsz _).trans hgb⟩
            case measure => first | (simp [intOf]; done) | (simp [intOf]; omega)
          · go_wp2_with (at_builtin; refine wpList_append_own _ rfl _ _ 22 rfl base 5 i0 (.int .u8 0) 1 1 Tryd.underlying22 hi hz0 hz1 hz2 rfl (by decide) _ _ _ rfl (HO.out.alloc _) ⟨wr.heap.size, 0, none⟩ 1 1 [_] rfl rfl (cell_one_new _ _ _) (by simp [Value.oneCell']) (by unfold maxLen; omega) (by omega) (by simp; omega) ?_; intro v' w1 hown' hgrow _)
            have hgb := grown_below (HO.out.alloc _) hgrow (by simp; omega)
            rw [sig_at m2 b2] at hown'
            go_roundw
            case rel => exact ⟨3, by omega, by go_num, by rw [HM.out] at hown' ⊢; rw [cs_snoc, List.append_assoc] at hown'; exact hown', (hbl.alloc hsz _).trans hgb⟩
            case measure => first | (simp [intOf]; done) | (simp [intOf]; omega)
          · go_wp2_with (at_builtin; refine wpList_append_own _ rfl _ _ 22 rfl base 5 i0 (.int .u8 0) 1 1 Tryd.underlying22 hi hz0 hz1 hz2 rfl (by decide) _ _ _ rfl (HO.out.alloc _) ⟨wr.heap.size, 0, none⟩ 1 1 [_] rfl rfl (cell_one_new _ _ _) (by simp [Value.oneCell']) (by unfold maxLen; omega) (by omega) (by simp; omega) ?_; intro v' w1 hown' hgrow _)
            have hgb := grown_below (HO.out.alloc _) hgrow (by simp; omega)
            rw [sig_at m3 b3] at hown'
            go_roundw
            case rel => exact ⟨4, by omega, by go_num, by rw [HM.out] at hown' ⊢; rw [cs_snoc, List.append_assoc] at hown'; exact hown', (hbl.alloc hsz _).trans hgb⟩
            case measure => first | (simp [intOf]; done) | (simp [intOf]; omega)
        · have hmj : m = j + 1 := by omega
          subst hmj
          go_wp2
          go_ret
          exact ⟨_, rfl, by rw [← HN.out]; exact HO.out, hbl⟩

theorem ints_cons (c : UInt8) (l : List UInt8) : ints (c :: l) = (c.toNat : Int) :: ints l := rfl
theorem sgs3 (x y z : Int) (hx : 0 ≤ x ∧ x ≤ 255) (hy : 0 ≤ y ∧ y ≤ 255) (hz : 0 ≤ z ∧ z ≤ 255) : (sgs (n24 x y z 3)).take (3 + 1) = ints (encBody [x, y, z]) := by
  have e1 : (x * 65536 + y * 256 + z) / 262144 % 64 = x / 4 := by omega
  have e2 : (x * 65536 + y * 256 + z) / 4096 % 64 = x % 4 * 16 + y / 16 := by omega
  have e3 : (x * 65536 + y * 256 + z) / 64 % 64 = y % 16 * 4 + z / 64 := by omega
  have e4 : (x * 65536 + y * 256 + z) % 64 = z % 64 := by omega
  simp only [n24, sgs, e1, e2, e3, e4, encBody, ints_cons]
  rfl
theorem sgs2 (x y z : Int) (hx : 0 ≤ x ∧ x ≤ 255) (hy : 0 ≤ y ∧ y ≤ 255) : (sgs (n24 x y z 2)).take (2 + 1) = ints (encBody [x, y]) := by
  have e1 : (x * 65536 + y * 256) / 262144 % 64 = x / 4 := by omega
  have e2 : (x * 65536 + y * 256) / 4096 % 64 = x % 4 * 16 + y / 16 := by omega
  have e3 : (x * 65536 + y * 256) / 64 % 64 = y % 16 * 4 := by omega
  simp only [n24, sgs, e1, e2, e3, encBody, ints_cons]
  rfl
theorem sgs1 (x y z : Int) (hx : 0 ≤ x ∧ x ≤ 255) : (sgs (n24 x y z 1)).take (1 + 1) = ints (encBody [x]) := by
  have e1 : x * 65536 / 262144 % 64 = x / 4 := by omega
  have e2 : x * 65536 / 4096 % 64 = x % 4 * 16 := by omega
  simp only [n24, sgs, e1, e2, encBody, ints_cons]
  rfl

/-- The signs of a part of bytes that lie in memory. -/
theorem signs_part (w W : World) (base : Nat) (v : Value) (n : Nat) (xs : List Int) (ho : W.ownsRow base 5 1 v n (cs xs)) (hb : base ≤ W.heap.size) (hn : n ≤ 1000000)
    (a : Option Addr) (len cap b off : Nat) (es : List Int) (h : Row1 w a len cap es b off) (hwb : w.heap.size = base) (hW : Below base w W) (i k c : Nat) (h1 : 1 ≤ k) (h3 : k ≤ 3) (hk : i + k ≤ len) (hc : k ≤ c) :
    Calls Tryd.prog 17 #[v, .slice (some ⟨b, off + i, none⟩) k c] W fun e w' => ∃ v', e = .returned v' ∧
      w'.ownsRow base 5 1 v' (n + (k + 1)) (cs (xs ++ ints (encBody ((es.drop i).take k)))) ∧ Below base W w' := by
  have hl := h.len_
  have hcell : ∀ j, j < k → W.cell? ⟨b, off + i + j, none⟩ = some (.int .u8 (es.getD (i + j) 0)) := fun j hj => by
    have := h.cell (i + j) (by omega)
    rw [← Nat.add_assoc] at this
    rw [← this]
    exact hW.cell (p := ⟨b, off + i + j, none⟩) (by show b < base; have := h.old; omega)
  have hbd : ∀ j, 0 ≤ es.getD j 0 ∧ es.getD j 0 ≤ 255 := fun j => by
    rcases Nat.lt_or_ge j es.length with hj | hj
    · have e : es.getD j 0 = es[j] := by simp [List.getD, List.getElem?_eq_getElem hj]
      rw [e]
      exact h.bd _ (List.getElem_mem hj)
    · have e : es.getD j 0 = 0 := by simp [List.getD, List.getElem?_eq_none hj]
      rw [e]
      omega
  have hd : ∀ j, j < es.length → es.drop j = es.getD j 0 :: es.drop (j + 1) := fun j hj => by
    rw [List.drop_eq_getElem_cons hj]
    simp [List.getD, List.getElem?_eq_getElem hj]
  have hs := signs_any W base v n xs ho hb hn b (off + i) k c (es.getD i 0) (es.getD (i + 1) 0) (es.getD (i + 2) 0) h1 h3 hc (hbd _) (hbd _) (hbd _)
    (hcell 0 (by omega)) (fun h => hcell 1 (by omega)) (fun h => hcell 2 (by omega))
  obtain rfl | rfl | rfl : k = 1 ∨ k = 2 ∨ k = 3 := by omega
  · rw [sgs1 _ _ _ (hbd _)] at hs
    rw [hd i (by omega)]
    exact hs
  · rw [sgs2 _ _ _ (hbd _) (hbd _)] at hs
    rw [hd i (by omega), hd (i + 1) (by omega)]
    exact hs
  · rw [sgs3 _ _ _ (hbd _) (hbd _) (hbd _)] at hs
    rw [hd i (by omega), hd (i + 1) (by omega), hd (i + 1 + 1) (by omega)]
    exact hs
end Go.Proofs.YtecljjkbadapeaaDoor
