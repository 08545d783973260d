/- BloomOrder returns true for every seed, all texts, every place and one more text, and writes nothing that was there. Conditions: the contracts of package bloom. -/
import Derived.Test.YtidnjcoljfccdaaBloomLib
import Derived.Deep.RegionWith
namespace Go.Proofs.Ytidnjcoljfccdaa
open Go.RowKit
variable {Fil : World → Nat → Nat → List Nat → Prop}

theorem back_step (seed : Nat) (os : List (Int × ByteArray)) (q : Nat) (h : q < os.length) (s : ByteArray) (hs : s = os[q].2) :
    addAll seed [] (((texts os).drop q).reverse) = addS (addAll seed [] (((texts os).drop (q + 1)).reverse)) (pls seed s.data.toList) := by
  have h' : q < (texts os).length := by rw [texts_len]; exact h
  have e : (texts os)[q] = s.data.toList := by
    rw [hs]
    exact List.getElem_map _
  rw [List.drop_eq_getElem_cons h', List.reverse_cons, all_snoc, e]
theorem order_mem (seed : Nat) (ts : List (List UInt8)) (l : List UInt8) (hl : l ∈ ts) (q : Nat) : q ∈ addAll seed [] ts ↔ q ∈ addS (addAll seed [] ts.reverse) (pls seed l) := by
  rw [mem_add, mem_all, mem_all]
  simp only [List.not_mem_nil, false_or, List.mem_reverse]
  constructor
  · exact .inl
  · rintro (h | h)
    · exact h
    · exact ⟨l, hl, h⟩

set_option maxHeartbeats 4000000 in
theorem bloomOrder_in (L : BloomLib Fil) (seed : Nat) (hd : seed < 18446744073709551616) {w : World} {a : Option Addr} {len cap : Nat} {os : List (Int × ByteArray)} (h : OpsAt w a len cap os) (hS : Short os 100) (j : Nat) (hj : j < len) (x : ByteArray) (hx : x.size ≤ 300) :
    Calls Try.prog 5 #[.int .u64 seed, .slice a len cap, .int .i64 j, .string x] w fun e w' => e = .returned (.bool true) ∧ Below w.heap.size w w' := by
  have hl := h.len_
  have hlen : len ≤ 100 := by have := hS.1; omega
  have hxi : (x.size : Int) ≤ 300 := by omega
  have hji : (j : Int) < (len : Int) := by omega
  have HS := hide hS
  have hB : Below w.heap.size w w := Below.refl _ _
  obtain ⟨c, off, rfl, hc0, -, hcj⟩ := h.at j (by omega)
  have HSj := hide (hS.2 _ (List.getElem_mem (show j < os.length by omega)))
  obtain ⟨y, hy⟩ : ∃ y, y = (os[j]'(by omega)).2 := ⟨_, rfl⟩
  rw [← hy] at hcj HSj
  have hym := texts_mem os j (by omega) y hy
  have HO := hide (order_mem seed (texts os) _ hym)
  have HCj := hide hcj
  clear hS hy hym hcj
  go_enter Try.func5, Try.ntmps5
  go_wp2_with (first
    | (go_at_call 8; refine (awake_any L _).mono ?_; rintro e w1 ⟨rfl, hb⟩; replace hB := Bt hB hb; clear hb)
    | (go_at_call 9; refine (short_any (h.on hB) 100 (by decide)).mono ?_; rintro e w2 ⟨r, rfl, hr, rfl⟩; obtain rfl : r = true := hr.2 HS.out; clear hr)
    | (go_at_call 10; have hx2 := hF; clear hx2; refine (L.new seed hd _).mono ?_; rintro e w3 ⟨b2, rfl, hb2, hG, hg⟩; have hb21 : b ≠ b2 := (by have := L.lt hF; omega); replace hb2 := Nat.le_trans hB.size hb2; replace hB := gr_below hB hg (fun _ e => by cases e); replace hF := L.kept hF hg (by simp); clear hg)
    | (go_at_call 10; refine (L.new seed hd _).mono ?_; rintro e w3 ⟨b, rfl, hb, hF, hg⟩; replace hb := Nat.le_trans hB.size hb; replace hB := gr_below hB hg (fun _ e => by cases e); clear hg))
  rename_i hcond K9 a9
  have HJ := hide hj
  clear hj hji hcond
  go_loopw [13] (fun i wr => ∃ (k : Nat), k ≤ len ∧ i = .int .i64 k ∧ Fil wr b seed (addAll seed [] ((texts os).take k)) ∧ Fil wr b2 seed [] ∧ Below w.heap.size w wr) (fun i _ => len - (intOf i).toNat)
  case atStart => exact ⟨0, Nat.zero_le _, rfl, hF, hG, hB⟩
  case round =>
    clear hF hG hB
    obtain ⟨k, hk, rfl, hF, hG, hB⟩ := hrel
    by_cases hlt : k < len
    · obtain ⟨-, -, hcell⟩ := h.at2 k (by omega)
      have HSz := hide (HS.out.2 _ (List.getElem_mem (show k < os.length by omega)))
      obtain ⟨s, hs⟩ : ∃ s, s = (os[k]'(by omega)).2 := ⟨_, rfl⟩
      rw [← hs] at hcell HSz
      have hsz := HSz.out
      have hct : wr.cell? ⟨c, off + k * 2 + 1, none⟩ = some (.string s) := (hB.cell (p := ⟨c, off + k * 2 + 1, none⟩) hc0).trans hcell
      have HT := hide (texts_step seed os k (by omega) s hs)
      clear hs hcell
      go_wp2_with (go_at_call 11; refine (L.add hF _ hsz).mono ?_; rintro e w1 ⟨rfl, hF2, hg⟩; replace hB := gr_below hB hg (fun n e => by cases e; exact hb); replace hG := L.kept hG hg (fun e => by cases e; exact hb21 rfl); clear hg hF hct; have hF := hF2; clear hF2; rw [← HT.out] at hF)
      go_roundw
      case rel => exact ⟨k + 1, by omega, by go_num, hF, hG, hB⟩
      case measure => simp [intOf]; omega
    · rw [texts_all os k (by omega)] at hF
      go_wp2
      go_loopw [14] (fun i wr => ∃ (p : Nat) (z : Int), p ≤ len ∧ z = (p : Int) - 1 ∧ i = .int .i64 z ∧ Fil wr b seed (addAll seed [] (texts os)) ∧ Fil wr b2 seed (addAll seed [] (((texts os).drop p).reverse)) ∧ Below w.heap.size w wr) (fun i _ => ((intOf i) + 1).toNat)
      case atStart => exact ⟨len, _, Nat.le_refl _, rfl, by go_num, hF, by rw [List.drop_of_length_le (by rw [texts_len]; omega)]; exact hG, hB⟩
      case round =>
        clear hF hG hB
        obtain ⟨p, z, hp, hz, rfl, hF, hG, hB⟩ := hrel
        by_cases hp0 : p = 0
        · subst hp0
          obtain rfl : z = -1 := by omega
          rw [List.drop_zero] at hG
          obtain ⟨n, hn⟩ : ∃ n, (addAll seed [] (texts os)).length = n := ⟨_, rfl⟩
          have hn2 : (addS (addAll seed [] (texts os).reverse) (pls seed y.data.toList)).length = n := by
            rw [← hn]
            exact (len_same (L.good hF).1.1 (nodup_add _ (L.good hG).1.1) HO.out).symm
          obtain ⟨r, hr⟩ : ∃ r, hasS (addAll seed [] (texts os)) (pls seed x.data.toList) = r := ⟨_, rfl⟩
          have hr2 : hasS (addS (addAll seed [] (texts os).reverse) (pls seed y.data.toList)) (pls seed x.data.toList) = r := by
            rw [← hr]
            exact (has_same HO.out _).symm
          have HN := hide hn
          have HN2 := hide hn2
          have HR := hide hr
          have HR2 := hide hr2
          have hsy := HSj.out
          have hji : (j : Int) < (len : Int) := by have := HJ.out; omega
          have hcy : wr.cell? ⟨c, off + j * 2 + 1, none⟩ = some (.string y) := (hB.cell (p := ⟨c, off + j * 2 + 1, none⟩) hc0).trans HCj.out
          clear hn hn2 hr hr2 hz
          go_wp2_with (first
            | (go_at_call 11; refine (L.add hG _ hsy).mono ?_; rintro e w1 ⟨rfl, hG2, hg⟩; replace hB := gr_below hB hg (fun n e => by cases e; exact hb2); replace hF := L.kept hF hg (fun e => by cases e; exact hb21 rfl); clear hg hG hcy; have hG := hG2; clear hG2)
            | (go_at_call_of 17 (Value.pointer (some ⟨b, 0, none⟩)); refine (L.ones hF).mono ?_; rintro e w1 ⟨he, hF2, hg⟩; replace hB := gr_below hB hg (fun _ e => by cases e); replace hG := L.kept hG hg (by simp); clear hg hF; have hF := hF2; clear hF2; rw [HN.out] at he; subst he)
            | (go_at_call_of 17 (Value.pointer (some ⟨b2, 0, none⟩)); refine (L.ones hG).mono ?_; rintro e w1 ⟨he, hG2, hg⟩; replace hB := gr_below hB hg (fun _ e => by cases e); replace hF := L.kept hF hg (by simp); clear hg hG; have hG := hG2; clear hG2; rw [HN2.out] at he; subst he)
            | (go_at_call_of 13 (Value.pointer (some ⟨b, 0, none⟩)); refine (L.has hF _ hx).mono ?_; rintro e w1 ⟨he, hF2, hg⟩; replace hB := gr_below hB hg (fun _ e => by cases e); replace hG := L.kept hG hg (by simp); clear hg hF; have hF := hF2; clear hF2; rw [HR.out] at he; subst he)
            | (go_at_call_of 13 (Value.pointer (some ⟨b2, 0, none⟩)); refine (L.has hG _ hx).mono ?_; rintro e w1 ⟨he, hG2, hg⟩; replace hB := gr_below hB hg (fun _ e => by cases e); replace hF := L.kept hF hg (by simp); clear hg hG; have hG := hG2; clear hG2; rw [HR2.out] at he; subst he))
          go_ret
          exact ⟨ret_bool (by simp), hB⟩
        · obtain ⟨q, rfl⟩ : ∃ q, p = q + 1 := ⟨p - 1, by omega⟩
          obtain rfl : z = (q : Int) := by omega
          obtain ⟨-, -, hcell⟩ := h.at2 q (by omega)
          have HSz := hide (HS.out.2 _ (List.getElem_mem (show q < os.length by omega)))
          obtain ⟨s, hs⟩ : ∃ s, s = (os[q]'(by omega)).2 := ⟨_, rfl⟩
          rw [← hs] at hcell HSz
          have hsz := HSz.out
          have hct : wr.cell? ⟨c, off + q * 2 + 1, none⟩ = some (.string s) := (hB.cell (p := ⟨c, off + q * 2 + 1, none⟩) hc0).trans hcell
          have HT := hide (back_step seed os q (by omega) s hs)
          have hq : (q : Int) < (len : Int) := by omega
          clear hs hcell hz
          go_wp2_with (go_at_call 11; refine (L.add hG _ hsz).mono ?_; rintro e w1 ⟨rfl, hG2, hg⟩; replace hB := gr_below hB hg (fun n e => by cases e; exact hb2); replace hF := L.kept hF hg (fun e => by cases e; exact hb21 rfl); clear hg hG hct; have hG := hG2; clear hG2; rw [← HT.out] at hG)
          go_roundw
          case rel => exact ⟨q, _, by omega, rfl, by go_num, hF, hG, hB⟩
          case measure => simp [intOf]
set_option maxHeartbeats 2000000 in
theorem bloomOrder_out (L : BloomLib Fil) (seed : Nat) (hd : seed < 18446744073709551616) {w : World} {a : Option Addr} {len cap : Nat} {os : List (Int × ByteArray)} (h : OpsAt w a len cap os) (j : Int) (x : ByteArray) (hS : ¬ Short os 100) :
    Calls Try.prog 5 #[.int .u64 seed, .slice a len cap, .int .i64 j, .string x] w fun e w' => e = .returned (.bool true) ∧ Below w.heap.size w w' := by
  have HS := hide hS
  have hB : Below w.heap.size w w := Below.refl _ _
  clear hS
  go_enter Try.func5, Try.ntmps5
  go_wp2_with (first
    | (go_at_call 8; refine (awake_any L _).mono ?_; rintro e w1 ⟨rfl, hb⟩; replace hB := Bt hB hb; clear hb)
    | (go_at_call 9; refine (short_any (h.on hB) 100 (by decide)).mono ?_; rintro e w2 ⟨r, rfl, hr, rfl⟩; obtain rfl : r = false := Bool.eq_false_iff.2 (fun e => HS.out (hr.1 e)); clear hr)
    | (go_at_call 10; refine (L.new seed hd _).mono ?_; rintro e w3 ⟨b, rfl, -, -, hg⟩; replace hB := gr_below hB hg (fun _ e => by cases e); clear hg))
  go_ret
  exact ⟨rfl, hB⟩
set_option maxHeartbeats 2000000 in
theorem bloomOrder_low (L : BloomLib Fil) (seed : Nat) (hd : seed < 18446744073709551616) {w : World} {a : Option Addr} {len cap : Nat} {os : List (Int × ByteArray)} (h : OpsAt w a len cap os) (j : Int) (x : ByteArray) (hS : Short os 100) (hj : j < 0) :
    Calls Try.prog 5 #[.int .u64 seed, .slice a len cap, .int .i64 j, .string x] w fun e w' => e = .returned (.bool true) ∧ Below w.heap.size w w' := by
  have HS := hide hS
  have hB : Below w.heap.size w w := Below.refl _ _
  clear hS
  go_enter Try.func5, Try.ntmps5
  go_wp2_with (first
    | (go_at_call 8; refine (awake_any L _).mono ?_; rintro e w1 ⟨rfl, hb⟩; replace hB := Bt hB hb; clear hb)
    | (go_at_call 9; refine (short_any (h.on hB) 100 (by decide)).mono ?_; rintro e w2 ⟨r, rfl, hr, rfl⟩; obtain rfl : r = true := hr.2 HS.out; clear hr)
    | (go_at_call 10; refine (L.new seed hd _).mono ?_; rintro e w3 ⟨b, rfl, -, -, hg⟩; replace hB := gr_below hB hg (fun _ e => by cases e); clear hg))
  go_ret
  exact ⟨rfl, hB⟩
set_option maxHeartbeats 2000000 in
theorem bloomOrder_high (L : BloomLib Fil) (seed : Nat) (hd : seed < 18446744073709551616) {w : World} {a : Option Addr} {len cap : Nat} {os : List (Int × ByteArray)} (h : OpsAt w a len cap os) (j : Int) (x : ByteArray) (hS : Short os 100) (h0 : 0 ≤ j) (hj : (len : Int) ≤ j) :
    Calls Try.prog 5 #[.int .u64 seed, .slice a len cap, .int .i64 j, .string x] w fun e w' => e = .returned (.bool true) ∧ Below w.heap.size w w' := by
  have HS := hide hS
  have hB : Below w.heap.size w w := Below.refl _ _
  clear hS
  go_enter Try.func5, Try.ntmps5
  go_wp2_with (first
    | (go_at_call 8; refine (awake_any L _).mono ?_; rintro e w1 ⟨rfl, hb⟩; replace hB := Bt hB hb; clear hb)
    | (go_at_call 9; refine (short_any (h.on hB) 100 (by decide)).mono ?_; rintro e w2 ⟨r, rfl, hr, rfl⟩; obtain rfl : r = true := hr.2 HS.out; clear hr)
    | (go_at_call 10; refine (L.new seed hd _).mono ?_; rintro e w3 ⟨b, rfl, -, -, hg⟩; replace hB := gr_below hB hg (fun _ e => by cases e); clear hg))
  go_ret
  exact ⟨rfl, hB⟩
set_option maxHeartbeats 2000000 in
theorem bloomOrder_long (L : BloomLib Fil) (seed : Nat) (hd : seed < 18446744073709551616) {w : World} {a : Option Addr} {len cap : Nat} {os : List (Int × ByteArray)} (h : OpsAt w a len cap os) (j : Int) (x : ByteArray) (hS : Short os 100) (h0 : 0 ≤ j) (hj : j < (len : Int)) (hx : 300 < x.size) :
    Calls Try.prog 5 #[.int .u64 seed, .slice a len cap, .int .i64 j, .string x] w fun e w' => e = .returned (.bool true) ∧ Below w.heap.size w w' := by
  have HS := hide hS
  have hB : Below w.heap.size w w := Below.refl _ _
  have hxi : (300 : Int) < (x.size : Int) := by omega
  clear hS
  go_enter Try.func5, Try.ntmps5
  go_wp2_with (first
    | (go_at_call 8; refine (awake_any L _).mono ?_; rintro e w1 ⟨rfl, hb⟩; replace hB := Bt hB hb; clear hb)
    | (go_at_call 9; refine (short_any (h.on hB) 100 (by decide)).mono ?_; rintro e w2 ⟨r, rfl, hr, rfl⟩; obtain rfl : r = true := hr.2 HS.out; clear hr)
    | (go_at_call 10; refine (L.new seed hd _).mono ?_; rintro e w3 ⟨b, rfl, -, -, hg⟩; replace hB := gr_below hB hg (fun _ e => by cases e); clear hg))
  go_ret
  exact ⟨rfl, hB⟩
theorem bloomOrder_walk (L : BloomLib Fil) (W : World) (a0 : Int) (w0 : (Lit.int .u64 a0).wf = true) (a1 : Option Addr) (len1 cap1 : Nat) (z1 : List (Int × ByteArray)) (w1 : OpsAt W a1 len1 cap1 z1) (k : Int) (_w2 : (Lit.int .i64 k).wf = true) (s3 : ByteArray) (_w3 : s3.size ≤ 140737488351232) :
    Calls Try.prog 5 #[.int .u64 a0, .slice a1 len1 cap1, .int .i64 k, .string s3] W fun e W' => e = .returned (.bool true) ∧ Below W.heap.size W W' := by
  obtain ⟨p0, p1⟩ := u64_wf w0
  obtain ⟨sd, rfl⟩ := Int.eq_ofNat_of_zero_le p0
  by_cases h : Short z1 100
  · by_cases h0 : k < 0
    · exact bloomOrder_low L sd (by omega) w1 k s3 h h0
    · by_cases h1 : (len1 : Int) ≤ k
      · exact bloomOrder_high L sd (by omega) w1 k s3 h (by omega) h1
      · by_cases hx : s3.size ≤ 300
        · obtain ⟨j, rfl⟩ := Int.eq_ofNat_of_zero_le (show 0 ≤ k by omega)
          exact bloomOrder_in L sd (by omega) w1 h j (by omega) s3 hx
        · exact bloomOrder_long L sd (by omega) w1 k s3 h (by omega) (by omega) (by omega)
  · exact bloomOrder_out L sd (by omega) w1 k s3 h
end Go.Proofs.Ytidnjcoljfccdaa
