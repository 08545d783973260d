/- Slices of bytes that came in, whole: Get of package num of such a slice, and append of its bytes to a slice of the call's own. Conditions: the slice has at most 140737488351232 bytes. -/
import Derived.Test.YtpoidlmemoocmaaDoorRow
namespace Go.Proofs.YtpoidlmemoocmaaDoor
open Go.RowKit

theorem IsRow.on {w w' : World} {a : Option Addr} {len cap : Nat} {zs : List Int} (h : IsRow .u8 w a len cap zs) (hb : Below w.heap.size w w') : IsRow .u8 w' a len cap zs := by
  rcases h with h | ⟨x, hx, hl, hm, hz, hcell, hwz⟩
  · exact .inl h
  · exact .inr ⟨x, hx, hl, hm, hz, fun i hi => (hb.cell (block_lt_of_cell (hcell i hi))).trans (hcell i hi), hwz⟩
theorem IsRow.len_take {w : World} {a : Option Addr} {len cap : Nat} {zs : List Int} (h : IsRow .u8 w a len cap zs) : (zs.take len).length = len := by
  rcases h with ⟨rfl, rfl, rfl, rfl⟩ | ⟨x, hx, hl, hm, hz, hcell, hwz⟩
  · rfl
  · rw [List.length_take]; omega
theorem IsRow.bd {w : World} {a : Option Addr} {len cap : Nat} {zs : List Int} (h : IsRow .u8 w a len cap zs) : ∀ z ∈ zs.take len, 0 ≤ z ∧ z ≤ 255 := by
  intro z hz
  rcases h with ⟨rfl, rfl, rfl, rfl⟩ | ⟨x, hx, hl, hm, hzl, hcell, hwz⟩
  · simp at hz
  · have := hwz z (List.mem_of_mem_take hz)
    have e1 : IntKind.u8.min = 0 := rfl
    have e2 : IntKind.u8.max = 255 := rfl
    simp [Lit.wf, e1, e2] at this
    exact this
theorem get_src {w : World} {a : Option Addr} {len cap : Nat} {zs : List Int} (h : IsRow .u8 w a len cap zs) (hl : len ≤ 140737488351232) :
    Calls Tryd.prog 20 #[.slice a len cap] w fun e w' => e = .returned (.int .u64 (num8 ((zs.take len).drop (len - 8)))) ∧ w' = w := by
  rcases row_cases h with ⟨rfl, ha⟩ | ⟨b, off, r⟩
  · have := get_empty a cap ha w
    simpa [num8] using this
  · exact get_row r hl
/-- Get of a slice of the call's own. -/
theorem get_mine {w : World} {base n : Nat} {v : Value} {zs : List Int} (ho : w.ownsRow base 5 1 v n (zs.map (Value.int .u8))) (hz : ∀ z ∈ zs, 0 ≤ z ∧ z ≤ 255) (h8 : n ≤ 8) :
    Calls Tryd.prog 20 #[v] w fun e w' => e = .returned (.int .u64 (num8 zs)) ∧ w' = w := by
  have hn : zs.length = n := by have := ho.1; simpa using this
  rcases Nat.eq_zero_or_pos n with h0 | h1
  · subst h0
    have he : zs = [] := List.eq_nil_of_length_eq_zero hn
    subst he
    rcases ho.2 with ⟨rfl, _⟩ | ⟨g, cap, cur, rfl, _⟩
    · exact get_empty none 0 (fun _ => rfl) w
    · exact get_empty _ cap (fun e => by cases e) w
  · rcases ho.2 with ⟨_, h0⟩ | ⟨g, cap, cur, rfl, _⟩
    · omega
    · exact get_own ho hz h1 h8

theorem ints_one (zs : List Int) : ∀ u ∈ zs.map (Value.int .u8), u.oneCell' = true := by
  intro u hu
  obtain ⟨z, _, rfl⟩ := List.mem_map.1 hu
  rfl
/-- append of all bytes of a slice that came in. -/
theorem app_src {w : World} {base n : Nat} {v : Value} {xs : List Int} {a : Option Addr} {len cap : Nat} {zs : List Int} (h : IsRow .u8 w a len cap zs) (ho : w.ownsRow base 5 1 v n (xs.map (Value.int .u8))) (hb : base ≤ w.heap.size) (hroom : n + len ≤ 140737488355328) :
    ∃ v' w', (Builtin.append_ #[30, 30] 30 #[v, .slice a len cap]).run Tryd.prog w = .ok v' w' ∧ w'.ownsRow base 5 1 v' (n + len) ((xs ++ zs.take len).map (Value.int .u8)) ∧ w.grownBy w' v.ownBlock := by
  obtain ⟨i0, hi, hz0, hz1, hz2⟩ := info_parts info_u8
  have hlt := h.len_take
  rcases h with ⟨rfl, rfl, rfl, rfl⟩ | ⟨x, rfl, hl, hm, hzl, hcell, hwz⟩
  · refine ⟨v, w, run_append_owned_none (P := Tryd.prog) (w := w) base 30 30 5 i0 1 Tryd.underlying30 hi v n _ ho, ?_, ⟨rfl, rfl, rfl, Nat.le_refl _, fun _ _ _ => rfl⟩⟩
    simpa using ho
  · obtain ⟨v', w', h1, h2, h3, _⟩ := run_append_own (P := Tryd.prog) w base 30 30 5 i0 (.int .u8 0) 1 1 Tryd.underlying30 hi hz0 hz1 hz2 rfl (by decide) v n _ ho x len cap ((zs.take len).map (Value.int .u8)) (by simpa using hlt)
      (fun j u hj => by
        rw [List.getElem?_map] at hj
        have hjl : j < len := by
          rcases Nat.lt_or_ge j len with h' | h'
          · exact h'
          · rw [List.getElem?_eq_none (by omega)] at hj; cases hj
        rw [List.getElem?_take_of_lt hjl, List.getElem?_eq_getElem (by omega)] at hj
        simp only [Option.map_some, Option.some.injEq] at hj
        rw [hcell j (by omega), ← hj]
        simp [List.getD, List.getElem?_eq_getElem (show j < zs.length by omega)])
      (ints_one _) (by unfold maxLen; omega) (by omega) hb
    exact ⟨v', w', h1, by rw [List.map_append]; exact h2, h3⟩
theorem grown_below {w w' : World} {base : Nat} {e size n : Nat} {v : Value} {xs : List Value} (ho : w.ownsRow base e size v n xs) (hg : w.grownBy w' v.ownBlock) (hb : base ≤ w.heap.size) : Below base w w' :=
  (Below.refl _ _).grown hg hb fun k hk => by
    rcases ho.2 with ⟨rfl, _⟩ | ⟨g, cap, cur, rfl, hg', _⟩
    · cases hk
    · cases hk; exact hg'
end Go.Proofs.YtpoidlmemoocmaaDoor
