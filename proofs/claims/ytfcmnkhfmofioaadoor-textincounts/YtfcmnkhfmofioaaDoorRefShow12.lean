/- What the document's own Show answers: the number's decimal numeral; it writes nothing that was there. Conditions: none. -/
import Derived.Test.YtfcmnkhfmofioaaDoorG02Joined
import Derived.Test.YtfcmnkhfmofioaaDoorG12Joined
namespace Go.Proofs.YtfcmnkhfmofioaaDoor
open Go.RowKit

theorem info_u8S : (Tryd.prog.info? 5).map (fun i => (i.zero, i.size, i.bytes)) = some (some (.int .u8 0), 1, 1) := by kernel_rfl
theorem conv_ownS {w : World} {base g n cap : Nat} {zs : List Int} (ho : w.ownsRow base 5 1 (.slice (some ⟨g, 0, none⟩) n cap) n (zs.map (Value.int .u8))) (hz : ∀ z ∈ zs, 0 ≤ z ∧ z ≤ 255) :
    (convert 22 9 (.slice (some ⟨g, 0, none⟩) n cap)).run Tryd.prog w = .ok (.string (strOf zs)) w := by
  have hn : zs.length = n := by have := ho.1; simpa using this
  have h := run_convert_bytes_back (P := Tryd.prog) w 22 9 5 ⟨g, 0, none⟩ cap (zs.map fun z => UInt8.ofNat z.toNat) Tryd.underlying22 Tryd.underlying5 Tryd.underlying9 (fun j hj => by
    have hj' : j < zs.length := by simpa using hj
    rw [Lib.add_plain, Nat.zero_add, ho.cellAt j (by omega), List.getElem?_map, List.getElem?_eq_getElem hj']
    have := hz _ (List.getElem_mem hj')
    simp only [List.getElem_map, Option.map_some, UInt8.toNat_ofNat']
    congr 2
    omega)
  rw [List.length_map, hn] at h
  exact h
/-- The digits of m that are not yet laid: none of 0. -/
def digs (m : Nat) : List UInt8 := if m = 0 then [] else Lib.decDigits m
theorem digs_step (m : Nat) (h : 0 < m) : digs m = digs (m / 10) ++ [UInt8.ofNat (48 + m % 10)] := by
  unfold digs
  rw [if_neg (by omega)]
  by_cases h1 : m < 10
  · rw [if_pos (by omega), Lib.decDigits_one h1, Nat.mod_eq_of_lt h1]
    rfl
  · rw [if_neg (by omega), Lib.decDigits, dif_neg h1]
theorem ret_str {a b : ByteArray} (h : a = b) : Ending.returned (.string a) = .returned (.string b) := by rw [h]
/-- Numbers as bytes. -/
def toB (zs : List Int) : List UInt8 := zs.map fun z => UInt8.ofNat z.toNat

theorem toB_append (a b : List Int) : toB (a ++ b) = toB a ++ toB b := by simp [toB]
theorem getD_at (l : List Int) (i : Nat) (h : i < l.length) : l.getD i 0 = l[i] := by simp [List.getD, List.getElem?_eq_getElem h]
/-- A row of which the first k and the last k have changed places. -/
def revTo (zs : List Int) (k : Nat) : List Int := (List.range zs.length).map fun i => if i < k ∨ zs.length ≤ i + k then zs.getD (zs.length - 1 - i) 0 else zs.getD i 0
theorem revTo_length (zs : List Int) (k : Nat) : (revTo zs k).length = zs.length := by simp [revTo]
theorem revTo_zero (zs : List Int) : revTo zs 0 = zs := by
  apply List.ext_getElem
  · simp [revTo]
  · intro i h1 h2
    simp only [revTo, List.getElem_map, List.getElem_range]
    rw [if_neg (by omega), getD_at _ _ h2]
theorem revTo_all (zs : List Int) (k : Nat) (h : zs.length / 2 ≤ k) : revTo zs k = zs.reverse := by
  apply List.ext_getElem
  · simp [revTo]
  · intro i h1 h2
    have hi : i < zs.length := by simpa [revTo] using h1
    simp only [revTo, List.getElem_map, List.getElem_range, List.getElem_reverse]
    by_cases hc : i < k ∨ zs.length ≤ i + k
    · rw [if_pos hc, getD_at _ _ (by omega)]
    · rw [if_neg hc, getD_at _ _ hi]
      congr 1
      omega
theorem revTo_at (zs : List Int) (k i : Nat) (hi : i < zs.length) (h : k ≤ i) (h2 : i + k < zs.length) : (revTo zs k)[i]? = some (zs.getD i 0) := by
  rw [List.getElem?_eq_getElem (by rw [revTo_length]; exact hi)]
  simp only [revTo, List.getElem_map, List.getElem_range]
  rw [if_neg (by omega)]
theorem revTo_step (zs : List Int) (k j : Nat) (hj : j = zs.length - 1 - k) (h : k < zs.length / 2) : ((revTo zs k).set k (zs.getD j 0)).set j (zs.getD k 0) = revTo zs (k + 1) := by
  apply List.ext_getElem
  · simp [revTo]
  · intro i h1 h2
    have hi : i < zs.length := by simpa [revTo] using h2
    simp only [revTo, List.getElem_set, List.getElem_map, List.getElem_range]
    by_cases e1 : j = i
    · rw [if_pos e1, if_pos (by omega)]
      congr 1
      omega
    · rw [if_neg e1]
      by_cases e2 : k = i
      · rw [if_pos e2, if_pos (by omega)]
        congr 1
        omega
      · rw [if_neg e2]
        by_cases e3 : i < k ∨ zs.length ≤ i + k
        · rw [if_pos e3, if_pos (by omega)]
        · rw [if_neg e3, if_neg (by omega)]
theorem own_blockS {w : World} {base e size n : Nat} {v : Value} {xs : List Value} (h : w.ownsRow base e size v n xs) {b : Nat} (hb : v.ownBlock = some b) : base ≤ b := by
  rcases h.2 with ⟨rfl, _⟩ | ⟨g, cap, cur, rfl, hg, _⟩
  · cases hb
  · cases hb; exact hg
theorem own_shapeS {w : World} {base e size n : Nat} {v : Value} {xs : List Value} (h : w.ownsRow base e size v n xs) (h1 : 1 ≤ n) : ∃ g cap, v = .slice (some ⟨g, 0, none⟩) n cap ∧ base ≤ g := by
  rcases h.2 with ⟨_, h0⟩ | ⟨g, cap, cur, rfl, hg, _⟩
  · omega
  · exact ⟨g, cap, rfl, hg⟩
theorem map_set_int (l : List Int) (i : Nat) (x : Int) : (l.map (Value.int .u8)).set i (.int .u8 x) = (l.set i x).map (Value.int .u8) := by rw [List.map_set]

set_option maxRecDepth 100000 in
set_option maxHeartbeats 2000000 in
theorem refShow_pos (n : Nat) (h0 : 0 < n) (hn : n < 18446744073709551616) (w : World) :
    Calls Tryd.prog 9 #[.int .u64 n] w fun e w' => e = .returned (.string ⟨(Lib.decDigits n).toArray⟩) ∧ Below w.heap.size w w' := by
  obtain ⟨i0, hi, hz0, hz1, hz2⟩ := info_parts info_u8S
  have hlen := digits_len n hn
  have hne : ((n : Int) == 0) = false := by rw [beq_eq_false_iff_ne]; omega
  go_enter Tryd.func9, Tryd.ntmps9
  go_wp2
  go_loopw [0, 3] (fun x v wr => ∃ (m : Nat) (zs : List Int), x = .int .u64 m ∧ m < 18446744073709551616 ∧ wr.ownsRow w.heap.size 5 1 v zs.length (zs.map (Value.int .u8)) ∧ Below w.heap.size w wr ∧
      Hid (Lib.decDigits n = digs m ++ toB zs.reverse ∧ (∀ z ∈ zs, 48 ≤ z ∧ z ≤ 57)))
    (fun x _ _ => (intOf x).toNat)
  case atStart => exact ⟨n, [], rfl, hn, World.ownsRow_nil _ _ _ _, Below.refl _ _, by simp [digs, toB]; omega, by simp⟩
  case round =>
    obtain ⟨m, zs, rfl, hm, hown, hnx, HR⟩ := hrel
    by_cases hpos : 0 < m
    · have hzl : zs.length ≤ 20 := by
        have h1 := HR.out.1
        have h2 := congrArg List.length h1
        simp [toB] at h2
        omega
      have hgt : (0 : Int) < (m : Int) := by omega
      go_wp2_with (first
        | (at_builtin; refine wpList_append_own _ rfl _ _ 22 rfl w.heap.size 5 i0 (.int .u8 0) 1 1 Tryd.underlying22 hi hz0 hz1 hz2 rfl (by decide) _ _ _ rfl (hown.alloc _) ⟨wr.heap.size, 0, none⟩ 1 1 [.int .u8 (48 + (m : Int) % 10)] rfl rfl ?c1 ?c2 ?c3 ?c4 ?c5 ?_))
      case c1 =>
        intro j u hj
        match j, hj with
        | 0, hj => simp at hj; subst hj; simp [Addr.add]
      case c2 => intro u hu; simp at hu; subst hu; rfl
      case c3 => unfold maxLen; omega
      case c4 => omega
      case c5 => have := hnx.size; simp; omega
      intro v' w1 hown' hgrow _
      have hb1 : Below w.heap.size w w1 := (hnx.alloc hnx.size _).grown hgrow (by have := hnx.size; simp; omega) (fun b hb => own_blockS hown hb)
      have HN : Hid (Lib.decDigits n = digs (m / 10) ++ toB (zs ++ [48 + (m : Int) % 10]).reverse ∧ (∀ z ∈ zs ++ [48 + (m : Int) % 10], 48 ≤ z ∧ z ≤ 57)) := by
        obtain ⟨h1, h2⟩ := HR.out
        refine ⟨?_, ?_⟩
        · rw [h1, digs_step m hpos, List.reverse_append, toB_append, List.append_assoc]
          congr 1
        · intro z hz
          rcases List.mem_append.1 hz with h | h
          · exact h2 z h
          · simp only [List.mem_singleton] at h
            omega
      have HO : Hid (w1.ownsRow w.heap.size 5 1 v' (zs ++ [48 + (m : Int) % 10]).length ((zs ++ [48 + (m : Int) % 10]).map (Value.int .u8))) := by
        show World.ownsRow _ _ _ _ _ _ _
        rw [List.length_append, List.map_append]
        exact hown'
      clear hown' hgrow hown HR
      go_wp2
      go_roundw
      case rel => exact ⟨m / 10, _, by go_num, by omega, HO.out, hb1, HN⟩
      case measure => simp [intOf]; omega
    · have hm0 : m = 0 := by omega
      subst hm0
      have HD : Hid (Lib.decDigits n = toB zs.reverse) := by have := HR.out.1; show _ = _; simpa [digs] using this
      have HZ : Hid (∀ z ∈ zs, 48 ≤ z ∧ z ≤ 57) := HR.out.2
      have hl1 : 1 ≤ zs.length := by
        rcases Nat.eq_zero_or_pos zs.length with h | h
        · have e := List.eq_nil_of_length_eq_zero h
          have := HD.out
          rw [e] at this
          exact absurd this (digits_ne n)
        · exact h
      have hl20 : zs.length ≤ 20 := by
        have := congrArg List.length HD.out
        simp [toB] at this
        omega
      obtain ⟨L, hL⟩ : ∃ L, zs.length = L := ⟨_, rfl⟩
      have HL : Hid (zs.length = L) := hL
      rw [hL] at hown hl1 hl20
      obtain ⟨g, cap, rfl, hg⟩ := own_shapeS hown hl1
      clear HR hL hpos hm
      go_wp2
      go_loopw [4] (fun i w2 => ∃ k : Nat, k ≤ L / 2 ∧ i = .int .i64 k ∧ w2.ownsRow w.heap.size 5 1 (.slice (some ⟨g, 0, none⟩) L cap) L ((revTo zs k).map (Value.int .u8)) ∧ Below w.heap.size w w2)
        (fun i _ => L - (intOf i).toNat)
      case atStart => exact ⟨0, Nat.zero_le _, rfl, by rw [revTo_zero]; exact hown, hnx⟩
      case round =>
        obtain ⟨k, hk, rfl, hown2, hnx2⟩ := hrel
        clear hown hnx
        by_cases hlt : k < L / 2
        · obtain ⟨j, hj⟩ : ∃ j, j = L - 1 - k := ⟨_, rfl⟩
          have hji : (L : Int) - 1 - (k : Int) = (j : Int) := by omega
          have hjL : j < L := by omega
          have hkj : k < j := by omega
          have c1 := hown2.cellAt k (by omega)
          have c2 := hown2.cellAt j (by omega)
          rw [List.getElem?_map, revTo_at zs k k (by have := HL.out; omega) (by omega) (by have := HL.out; omega)] at c1
          rw [List.getElem?_map, revTo_at zs k j (by have := HL.out; omega) (by omega) (by have := HL.out; omega)] at c2
          have z1 := hown2.frozenAt k
          have z2 := hown2.frozenAt j
          have st := (hown2.stored k (.int .u8 (zs.getD j 0))).1.stored j (.int .u8 (zs.getD k 0))
          rw [map_set_int, map_set_int, revTo_step zs k j (by have := HL.out; omega) (by have := HL.out; omega)] at st
          obtain ⟨x, hx⟩ : ∃ x, x = zs.getD k 0 := ⟨_, rfl⟩
          obtain ⟨y, hy⟩ : ∃ y, y = zs.getD j 0 := ⟨_, rfl⟩
          rw [← hx] at c1 st
          rw [← hy] at c2 st
          simp only [Option.map_some] at c1 c2
          have ST := Lib.hid st.1
          have HJ := Lib.hid hj
          clear st hx hy hj
          go_wp2
          go_roundw
          case rel => exact ⟨k + 1, by omega, by go_num, ST.out, (hnx2.setCell (p := ⟨g, k, none⟩) hg _).setCell (p := ⟨g, j, none⟩) hg _⟩
          case measure => simp [intOf]; omega
        · have hcv := conv_ownS hown2 (by rw [revTo_all zs k (by have := HL.out; omega)]; intro z hz; have := HZ.out z (List.mem_reverse.1 hz); omega)
          rw [revTo_all zs k (by have := HL.out; omega)] at hcv
          have HE : Hid (strOf zs.reverse = ⟨(Lib.decDigits n).toArray⟩) := by show _ = _; rw [HD.out]; rfl
          clear hown2
          go_wp2
          go_ret
          exact ⟨ret_str HE.out, hnx2⟩

theorem zero_digits : Lib.decDigits 0 = [48] := by rw [Lib.decDigits_one (by decide)]; rfl
theorem refShow_nat (n : Nat) (hn : n < 18446744073709551616) (w : World) :
    Calls Tryd.prog 9 #[.int .u64 n] w fun e w' => e = .returned (.string ⟨(Lib.decDigits n).toArray⟩) ∧ Below w.heap.size w w' := by
  rcases Nat.eq_zero_or_pos n with h | h
  · subst h
    rw [zero_digits]
    have e : ((0 : Nat) : Int) = 0 := rfl
    rw [e]
    go_enter Tryd.func9, Tryd.ntmps9
    go_wp2
    go_ret
    exact ⟨rfl, Below.refl _ _⟩
  · exact refShow_pos n h hn w
end Go.Proofs.YtfcmnkhfmofioaaDoor
