/- What Encode of package base answers: the text of the bytes; nothing that was there is written. Conditions: at most 100000 bytes. -/
import Derived.Test.YtecljjkbadapeaaDoorSigns
namespace Go.Proofs.YtecljjkbadapeaaDoor
open Go.RowKit

theorem take_join (es : List Int) (p k : Nat) (h3 : p % 3 = 0) (hp : p ≤ es.length) : encBody (es.take (p + k)) = encBody (es.take p) ++ encBody ((es.drop p).take k) := by
  rw [List.take_add, body_join _ _ (by rw [List.length_take]; omega)]
theorem row_join {w : World} {base n m : Nat} {v : Value} {es : List Int} {p k : Nat} (h : w.ownsRow base 5 1 v n (cs (ints (encBody (es.take p)) ++ ints (encBody ((es.drop p).take k))))) (h3 : p % 3 = 0) (hp : p ≤ es.length) (hn : n = m) :
    w.ownsRow base 5 1 v m (cs (ints (encBody (es.take (p + k))))) := by
  rw [take_join es p k h3 hp, ints_app, ← hn]
  exact h
theorem fill_row {w : World} {base n m j : Nat} {v : Value} {l : List UInt8} (h : w.ownsRow base 5 1 v n (cs (ints (l ++ List.replicate j 61)) ++ [Value.int .u8 61])) (hn : n = m) :
    w.ownsRow base 5 1 v m (cs (ints (l ++ List.replicate (j + 1) 61))) := by
  rw [List.replicate_succ', ← List.append_assoc, ints_app, cs_app, ← hn]
  exact h

set_option maxHeartbeats 2000000 in
theorem encode_row (w : World) (a : Option Addr) (len cap b off : Nat) (es : List Int) (h : Row1 w a len cap es b off) (hl : len ≤ 100000) :
    Calls Tryd.prog 12 #[.slice (some ⟨b, off, none⟩) len cap] w fun e w' => e = .returned (.string ⟨(encB es).toArray⟩) ∧ Below w.heap.size w w' := by
  obtain ⟨i0, hi, hz0, hz1, hz2⟩ := info_parts info_u8
  have hcap := h.cap_
  have hone := h.one
  have H := hide h
  clear h
  go_enter Tryd.func12, Tryd.ntmps12
  go_wp2_with (at_make; refine wpList_make_own _ rfl _ _ 22 rfl w.heap.size 5 i0 (.int .u8 0) 1 Tryd.underlying22 hi hz0 hz1 _ _ _ ((len + 2) / 3 * 4) rfl rfl (by omega) (by rw [hz2]; omega) (by unfold maxLen; omega) (Nat.le_refl _) ?_; intro w1 hown hgrow)
  have hb1 : Below w.heap.size w w1 := (Below.refl _ _).grown hgrow (Nat.le_refl _) (fun k h => by cases h)
  go_loopw [3, 5] (fun u i wr => ∃ p : Nat, p % 3 = 0 ∧ p ≤ len ∧ i = .int .i64 p ∧ wr.ownsRow w.heap.size 5 1 u (p / 3 * 4) (cs (ints (encBody (es.take p)))) ∧ Below w.heap.size w wr)
    (fun _ i _ => len - (intOf i).toNat)
  case atStart => exact ⟨0, rfl, Nat.zero_le _, rfl, by simpa [cs, ints, encBody] using hown, hb1⟩
  case round =>
    obtain ⟨p, hp3, hpl, rfl, ho, hb⟩ := hrel
    clear hown hgrow hb1
    have hsz := hb.size
    have HO := hide ho
    clear ho
    by_cases hlt : p < len - len % 3
    · go_wp2_with (go_at_call 17; refine (signs_part w wr w.heap.size _ _ _ HO.out hsz (by omega) a len cap b off es H.out rfl hb p 3 3 (by omega) (by omega) (by omega) (by omega)).mono ?_; rintro e w' ⟨v', rfl, ho', hb'⟩)
      go_roundw
      case rel => exact ⟨p + 3, by omega, by omega, by go_num, row_join ho' hp3 (by rw [H.out.len_]; omega) (by omega), hb.trans hb'⟩
      case measure => first | (simp [intOf]; done) | (simp [intOf]; omega)
    · obtain hr | hr | hr : len % 3 = 0 ∨ len % 3 = 1 ∨ len % 3 = 2 := by omega
      · have hp : p = len := by omega
        subst hp
        have hri : (p : Int) % 3 = 0 := by omega
        have hE : es.take p = es := List.take_of_length_le (by rw [H.out.len_]; omega)
        have hcv := conv_own HO.out (ints_byt _)
        rw [hE, strOf_ints] at hcv
        have HX : Hid (encB es = encBody es) := by
          show _ = _
          rw [encB, H.out.len_, show fillN p = 0 by unfold fillN; omega, List.replicate_zero, List.append_nil]
        clear hE
        go_wp2
        go_ret
        exact ⟨by rw [HX.out]; rfl, hb⟩
      · have hp : p + 1 = len := by omega
        have hri : (len : Int) % 3 = 1 := by omega
        have hpi : (len : Int) - 1 = (p : Int) := by omega
        have hle : (p : Int) ≤ (len : Int) := by omega
        have hne : ¬ cap = p := by omega
        have hlp : len - p = 1 := by omega
        go_wp2_with (go_at_call 17; refine (signs_part w wr w.heap.size _ _ _ HO.out hsz (by omega) a len cap b off es H.out rfl hb p 1 (cap - p) (by omega) (by omega) (by omega) (by omega)).mono ?_; rintro e w' ⟨v', rfl, ho', hb'⟩)
        have hT : es.take (p + 1) = es := List.take_of_length_le (by rw [H.out.len_]; omega)
        have ho2 := row_join ho' hp3 (by rw [H.out.len_]; omega) rfl
        rw [hT] at ho2
        have hB := hb.trans hb'
        have HX : Hid (encB es = encBody es ++ List.replicate 2 61) := by
          show _ = _
          rw [encB, H.out.len_, show fillN len = 2 by unfold fillN; omega]
        clear ho' hT
        go_loopw [3, 46] (fun u i wr => ∃ j : Nat, j ≤ 2 ∧ i = .int .i64 j ∧ wr.ownsRow w.heap.size 5 1 u (p / 3 * 4 + (1 + 1) + j) (cs (ints (encBody es ++ List.replicate j 61))) ∧ Below w.heap.size w wr)
          (fun _ i _ => 2 - (intOf i).toNat)
        case atStart => exact ⟨0, Nat.zero_le _, rfl, by rw [List.replicate_zero, List.append_nil]; exact ho2, hB⟩
        case round =>
          obtain ⟨j, hj, rfl, ho3, hb3⟩ := hrel
          clear ho2 hB
          have HO3 := hide ho3
          clear ho3
          have hsz3 := hb3.size
          by_cases hjt : j < 2
          · go_wp2_with (at_builtin; refine Lib.wpList_append_own_string _ rfl _ _ 22 9 rfl w.heap.size 5 i0 Tryd.underlying22 Tryd.underlying9 hi hz0 hz1 hz2 _ _ _ rfl HO3.out ⟨#[61]⟩ rfl (by show _ + 1 ≤ _; unfold maxLen; omega) (by show _ + 1 ≤ _; omega) hsz3 ?_; intro v4 w4 ho4 hg4 _)
            have hb4 := grown_below HO3.out hg4 hsz3
            go_roundw
            case rel => exact ⟨j + 1, by omega, by go_num, fill_row ho4 rfl, hb3.trans hb4⟩
            case measure => first | (simp [intOf]; done) | (simp [intOf]; omega)
          · have hj2 : j = 2 := by omega
            subst hj2
            have hcv := conv_own HO3.out (ints_byt _)
            rw [strOf_ints] at hcv
            go_wp2
            go_ret
            exact ⟨by rw [HX.out]; rfl, hb3⟩
      · have hp : p + 2 = len := by omega
        have hri : (len : Int) % 3 = 2 := by omega
        have hpi : (len : Int) - 2 = (p : Int) := by omega
        have hle : (p : Int) ≤ (len : Int) := by omega
        have hne : ¬ cap = p := by omega
        have hlp : len - p = 2 := by omega
        go_wp2_with (go_at_call 17; refine (signs_part w wr w.heap.size _ _ _ HO.out hsz (by omega) a len cap b off es H.out rfl hb p 2 (cap - p) (by omega) (by omega) (by omega) (by omega)).mono ?_; rintro e w' ⟨v', rfl, ho', hb'⟩)
        have hT : es.take (p + 2) = es := List.take_of_length_le (by rw [H.out.len_]; omega)
        have ho2 := row_join ho' hp3 (by rw [H.out.len_]; omega) rfl
        rw [hT] at ho2
        have hB := hb.trans hb'
        have HX : Hid (encB es = encBody es ++ List.replicate 1 61) := by
          show _ = _
          rw [encB, H.out.len_, show fillN len = 1 by unfold fillN; omega]
        clear ho' hT
        go_loopw [3, 46] (fun u i wr => ∃ j : Nat, j ≤ 1 ∧ i = .int .i64 j ∧ wr.ownsRow w.heap.size 5 1 u (p / 3 * 4 + (2 + 1) + j) (cs (ints (encBody es ++ List.replicate j 61))) ∧ Below w.heap.size w wr)
          (fun _ i _ => 1 - (intOf i).toNat)
        case atStart => exact ⟨0, Nat.zero_le _, rfl, by rw [List.replicate_zero, List.append_nil]; exact ho2, hB⟩
        case round =>
          obtain ⟨j, hj, rfl, ho3, hb3⟩ := hrel
          clear ho2 hB
          have HO3 := hide ho3
          clear ho3
          have hsz3 := hb3.size
          by_cases hjt : j < 1
          · go_wp2_with (at_builtin; refine Lib.wpList_append_own_string _ rfl _ _ 22 9 rfl w.heap.size 5 i0 Tryd.underlying22 Tryd.underlying9 hi hz0 hz1 hz2 _ _ _ rfl HO3.out ⟨#[61]⟩ rfl (by show _ + 1 ≤ _; unfold maxLen; omega) (by show _ + 1 ≤ _; omega) hsz3 ?_; intro v4 w4 ho4 hg4 _)
            have hb4 := grown_below HO3.out hg4 hsz3
            go_roundw
            case rel => exact ⟨j + 1, by omega, by go_num, fill_row ho4 rfl, hb3.trans hb4⟩
            case measure => first | (simp [intOf]; done) | (simp [intOf]; omega)
          · have hj2 : j = 1 := by omega
            subst hj2
            have hcv := conv_own HO3.out (ints_byt _)
            rw [strOf_ints] at hcv
            go_wp2
            go_ret
            exact ⟨by rw [HX.out]; rfl, hb3⟩

set_option maxHeartbeats 2000000 in
theorem encode_none (w : World) (a : Option Addr) (cap : Nat) :
    Calls Tryd.prog 12 #[.slice a 0 cap] w fun e w' => e = .returned (.string ⟨(encB []).toArray⟩) ∧ Below w.heap.size w w' := by
  obtain ⟨i0, hi, hz0, hz1, hz2⟩ := info_parts info_u8
  have H0 : Hid (encB [] = []) := hide (by decide)
  go_enter Tryd.func12, Tryd.ntmps12
  go_wp2_with (at_make; refine wpList_make_own _ rfl _ _ 22 rfl w.heap.size 5 i0 (.int .u8 0) 1 Tryd.underlying22 hi hz0 hz1 _ _ _ 0 rfl rfl (by omega) (by rw [hz2]; omega) (by unfold maxLen; omega) (Nat.le_refl _) ?_; intro w1 hown hgrow)
  have hb1 : Below w.heap.size w w1 := (Below.refl _ _).grown hgrow (Nat.le_refl _) (fun k h => by cases h)
  have hcv := conv_own (zs := []) hown (fun z hz => by cases hz)
  have HC := hide hcv
  clear hcv hown hgrow
  refine wp_loop_rounds 1 ?_
  rw [rounds_succ]
  have hcv := HC.out
  go_wp2
  go_ret
  exact ⟨by rw [H0.out]; rfl, hb1⟩

/-- Encode of bytes that lie in memory. -/
theorem encode_any {w : World} {a : Option Addr} {len cap : Nat} {es : List Int} (h : Bs w a len cap es) (hl : len ≤ 100000) :
    Calls Tryd.prog 12 #[.slice a len cap] w fun e w' => e = .returned (.string ⟨(encB es).toArray⟩) ∧ Below w.heap.size w w' := by
  rcases h with ⟨rfl, rfl, _⟩ | ⟨b, off, r⟩
  · exact encode_none w a cap
  · rw [r.at_]
    exact encode_row w a len cap b off es r hl
end Go.Proofs.YtecljjkbadapeaaDoor
