/- The document's own text dialect: which words are keys, which verbs store, how many words a line has. Conditions: none. -/
import Derived.Test.YtfcmnkhfmofioaaDoorRef14A
namespace Go.Proofs.YtfcmnkhfmofioaaDoor
set_option linter.unusedVariables false
open Go.RowKit

/-- Words in a row of texts, from a place on. -/
structure Ru (w : World) (b off len cap : Nat) (ws : List (List UInt8)) : Prop where
  n : ws.length = len
  c : len ≤ cap
  m : cap ≤ maxLen
  lt : b < w.heap.size
  at_ : ∀ i, ∀ h : i < ws.length, w.cell? ⟨b, off + i, none⟩ = some (.string (mkB ws[i]))
theorem Ru.keep {w w' : World} {b off n cap : Nat} {ws : List (List UInt8)} (h : Ru w b off n cap ws) (hb : w'.heap[b]? = w.heap[b]?) (hz : w.heap.size ≤ w'.heap.size) : Ru w' b off n cap ws :=
  ⟨h.n, h.c, h.m, Nat.lt_of_lt_of_le h.lt hz, fun i hi => (World.cell?_of_block (a := ⟨b, off + i, none⟩) hb).trans (h.at_ i hi)⟩
theorem Ru.on {w w' : World} {b off n cap : Nat} {ws : List (List UInt8)} (h : Ru w b off n cap ws) (hg : w.grownBy w' none) : Ru w' b off n cap ws := h.keep (hg.block b h.lt (by simp)) hg.size
theorem Ru.drop {w : World} {b off n cap : Nat} {ws : List (List UInt8)} (h : Ru w b off n cap ws) (k : Nat) (hk : k ≤ n) : Ru w b (off + k) (n - k) (cap - k) (ws.drop k) := by
  have hc := h.c
  have hm := h.m
  refine ⟨by rw [List.length_drop, h.n], by omega, by omega, h.lt, fun i hi => ?_⟩
  rw [List.length_drop] at hi
  rw [Nat.add_assoc, h.at_ (k + i) (by omega), List.getElem_drop]
theorem Ru.take {w : World} {b off n cap : Nat} {ws : List (List UInt8)} (h : Ru w b off n cap ws) (k : Nat) (hk : k ≤ n) : Ru w b off k cap (ws.take k) := by
  have hc := h.c
  refine ⟨by rw [List.length_take, h.n]; omega, by omega, h.m, h.lt, fun i hi => ?_⟩
  rw [List.length_take] at hi
  rw [h.at_ i (by omega), List.getElem_take]
theorem Ru.su {w : World} {b off n cap : Nat} {ws : List (List UInt8)} (h : Ru w b off n cap ws) : Su w (some ⟨b, off, none⟩) n cap (ws.map mkB) := by
  refine ⟨by rw [List.length_map, h.n], h.c, h.m, .inr ⟨b, off, rfl, h.lt, fun i x hi => ?_⟩⟩
  rw [List.getElem?_map] at hi
  cases hx : ws[i]? with
  | none => rw [hx] at hi; cases hi
  | some y =>
    rw [hx] at hi
    obtain ⟨h1, h2⟩ := List.getElem?_eq_some_iff.1 hx
    rw [h.at_ i h1, h2]
    cases hi
    rfl
def rkeysN (l : List (List UInt8)) : Bool := decide (l.length ≤ 16) && l.all keyN
theorem mkB_list (x : List UInt8) : (mkB x).data.toList = x := rfl
set_option maxRecDepth 100000 in
set_option maxHeartbeats 1000000 in
theorem rkeys_any {w : World} {b off n cap : Nat} {ws : List (List UInt8)} (h : Ru w b off n cap ws) : Calls Tryd.prog 33 #[.slice (some ⟨b, off, none⟩) n cap] w fun e w' => e = .returned (.bool (rkeysN ws)) ∧ w = w' := by
  have hn := h.n
  have hm := h.m
  have hc := h.c
  unfold maxLen at hm
  by_cases h16 : n ≤ 16
  · have i16 : ¬ (16 : Int) < (n : Int) := by omega
    have HR : Hid (rkeysN ws = ws.all keyN) := by show _ = _; unfold rkeysN; rw [hn, decide_eq_true h16, Bool.true_and]
    have HC := hide h.at_
    have HN := hide hn
    clear h hn hm hc
    go_enter Tryd.func33, Tryd.ntmps33
    go_wp2
    go_loop [3] (fun i => ∃ k : Nat, k ≤ n ∧ i = .int .i64 k ∧ Hid (∀ j, ∀ hj : j < ws.length, j < k → keyN ws[j] = true)) (fun i => n - (intOf i).toNat)
    case atStart => exact ⟨0, Nat.zero_le _, rfl, fun j _ hj => absurd hj (Nat.not_lt_zero _)⟩
    case round =>
      obtain ⟨k, hk, rfl, HK⟩ := hrel
      by_cases hlt : k < n
      · have hki : (k : Int) < (n : Int) := by omega
        have hc := HC.out k (by rw [HN.out]; exact hlt)
        obtain ⟨x, hx⟩ : ∃ x, x = ws[k]'(by rw [HN.out]; exact hlt) := ⟨_, rfl⟩
        rw [← hx] at hc
        have HX := hide hx
        have e1 : wrap64 ((k : Int) + 1) = (k : Int) + 1 := by unfold wrap64; omega
        clear hx
        cases hq : keyN x
        · have HF : Hid (rkeysN ws = false) := by
            show _ = _
            rw [HR.out, List.all_eq_false]
            exact ⟨x, by rw [HX.out]; exact List.getElem_mem _, by simp [hq]⟩
          have HQ := hide (fun W => rkey_any (mkB x) W)
          rw [mkB_list, hq] at HQ
          clear hq HR HK
          go_wp2_with (go_at_call 38; refine (HQ.out _).mono ?_; rintro e w1 ⟨rfl, rfl⟩)
          go_ret
          exact ⟨by rw [HF.out]; rfl, rfl⟩
        · have HT : Hid (∀ j, ∀ hj : j < ws.length, j < k + 1 → keyN ws[j] = true) := fun j hj hjk => by
            by_cases e : j = k
            · subst e; rw [HX.out] at hq; exact hq
            · exact HK.out j hj (by omega)
          have HQ := hide (fun W => rkey_any (mkB x) W)
          rw [mkB_list, hq] at HQ
          clear hq HR HK
          go_wp2_with (go_at_call 38; refine (HQ.out _).mono ?_; rintro e w1 ⟨rfl, rfl⟩)
          go_round
          case rel => exact ⟨k + 1, by omega, by go_num, HT⟩
          case measure => simp [intOf]; omega
      · obtain rfl : k = n := by omega
        have HT : Hid (rkeysN ws = true) := by
          show _ = _
          rw [HR.out, List.all_eq_true]
          intro x hx
          obtain ⟨i, hi, rfl⟩ := List.getElem_of_mem hx
          exact HK.out i hi (by rw [← HN.out]; exact hi)
        clear HR HK
        go_wp2
        go_ret
        exact ⟨by rw [HT.out]; rfl, rfl⟩
  · have i16 : (16 : Int) < (n : Int) := by omega
    have HF : Hid (rkeysN ws = false) := by show _ = _; unfold rkeysN; rw [hn, decide_eq_false h16, Bool.false_and]
    clear h hm hc h16
    go_enter Tryd.func33, Tryd.ntmps33
    go_wp2
    go_ret
    exact ⟨by rw [HF.out]; rfl, rfl⟩
/-- What a verb that stores does; -1: it does not. -/
def nmsB (k : Nat) : List UInt8 := [vb_set, vb_add, vb_replace, vb_append, vb_prepend, vb_cas].getD k []
def opsK (k : Nat) : Int := [3, 4, 5, 6, 7, 3].getD k 0
def ropN (v : List UInt8) : Int := if v = vb_set ∨ v = vb_cas then 3 else if v = vb_add then 4 else if v = vb_replace then 5 else if v = vb_append then 6 else if v = vb_prepend then 7 else -1
theorem rop_at (k : Nat) (hk : k < 6) : ropN (nmsB k) = opsK k := by
  match k, hk with
  | 0, _ => decide
  | 1, _ => decide
  | 2, _ => decide
  | 3, _ => decide
  | 4, _ => decide
  | 5, _ => decide
theorem rop_none (v : List UInt8) (h : ∀ j, j < 6 → nmsB j ≠ v) : ropN v = -1 := by
  have h0 : ¬ v = vb_set := fun e => h 0 (by decide) e.symm
  have h1 : ¬ v = vb_add := fun e => h 1 (by decide) e.symm
  have h2 : ¬ v = vb_replace := fun e => h 2 (by decide) e.symm
  have h3 : ¬ v = vb_append := fun e => h 3 (by decide) e.symm
  have h4 : ¬ v = vb_prepend := fun e => h 4 (by decide) e.symm
  have h5 : ¬ v = vb_cas := fun e => h 5 (by decide) e.symm
  unfold ropN
  rw [if_neg (by rintro (h | h) <;> contradiction), if_neg h1, if_neg h2, if_neg h3, if_neg h4]
def nmsC : Array Value := #[.string (mkB vb_set), .string (mkB vb_add), .string (mkB vb_replace), .string (mkB vb_append), .string (mkB vb_prepend), .string (mkB vb_cas)]
def opsC : Array Value := #[.int .i64 3, .int .i64 4, .int .i64 5, .int .i64 6, .int .i64 7, .int .i64 3]
theorem nmsC_at (k : Nat) (hk : k < 6) : nmsC[k]? = some (.string (mkB (nmsB k))) := by
  match k, hk with
  | 0, _ => rfl
  | 1, _ => rfl
  | 2, _ => rfl
  | 3, _ => rfl
  | 4, _ => rfl
  | 5, _ => rfl
theorem opsC_at (k : Nat) (hk : k < 6) : opsC[k]? = some (.int .i64 (opsK k)) := by
  match k, hk with
  | 0, _ => rfl
  | 1, _ => rfl
  | 2, _ => rfl
  | 3, _ => rfl
  | 4, _ => rfl
  | 5, _ => rfl
theorem mkB_inj {x y : List UInt8} (h : mkB x = mkB y) : x = y := by rw [← mkB_list x, h, mkB_list]
set_option maxRecDepth 100000 in
set_option maxHeartbeats 1000000 in
theorem rop_any (v : List UInt8) (w : World) : Calls Tryd.prog 19 #[.string (mkB v)] w fun e w' => e = .returned (.int .i64 (ropN v)) ∧ w.grownBy w' none := by
  obtain ⟨W1, hW1⟩ : ∃ W1, W1 = w.alloc (.cells nmsC 9) := ⟨_, rfl⟩
  obtain ⟨W2, hW2⟩ : ∃ W2, W2 = W1.alloc (.cells opsC 3) := ⟨_, rfl⟩
  have z1 : W1.heap.size = w.heap.size + 1 := by rw [hW1, World.size_alloc]
  have g1 : w.grownBy W1 none := by rw [hW1]; exact World.grownBy_alloc _ _ _
  have g2 : W1.grownBy W2 none := by rw [hW2]; exact World.grownBy_alloc _ _ _
  have n1 : W1.heap[w.heap.size]? = some (.cells nmsC 9 (0, 0)) := by rw [hW1]; exact World.alloc_heap_new _ _
  have n2 : W2.heap[w.heap.size + 1]? = some (.cells opsC 3 (0, 0)) := by rw [hW2, ← z1]; exact World.alloc_heap_new _ _
  have m1 := (g2.block _ (by omega) (by simp)).trans n1
  have CN : Hid (∀ k, k < 6 → W2.cell? ⟨w.heap.size, k, none⟩ = some (.string (mkB (nmsB k)))) := fun k hk => by
    unfold World.cell?
    rw [m1]
    exact nmsC_at k hk
  have CO : Hid (∀ k, k < 6 → W2.cell? ⟨w.heap.size + 1, k, none⟩ = some (.int .i64 (opsK k))) := fun k hk => by
    unfold World.cell?
    rw [n2]
    exact opsC_at k hk
  have HG := hide (gr_trans g1 g2)
  have HW : (w.alloc (.cells nmsC 9)).alloc (.cells opsC 3) = W2 := by rw [hW2, hW1]
  simp only [nmsC, opsC, mkB, vb_set, vb_add, vb_replace, vb_append, vb_prepend, vb_cas] at HW
  clear n1 n2 m1 g1 g2 hW1 hW2 z1
  obtain ⟨V, hV⟩ : ∃ V, V = mkB v := ⟨_, rfl⟩
  rw [← hV]
  replace hV := hide hV
  go_enter Tryd.func19, Tryd.ntmps19
  go_wp2
  clear HW
  go_loop [5] (fun i => ∃ k : Nat, k ≤ 6 ∧ i = .int .i64 k ∧ Hid (∀ j, j < k → nmsB j ≠ v)) (fun i => 6 - (intOf i).toNat)
  case atStart => exact ⟨0, Nat.zero_le _, rfl, fun j hj => absurd hj (Nat.not_lt_zero _)⟩
  case round =>
    obtain ⟨k, hk, rfl, HK⟩ := hrel
    by_cases hlt : k < 6
    · have hki : (k : Int) < 6 := by omega
      have c1 := CN.out k hlt
      have c2 := CO.out k hlt
      have e1 : wrap64 ((k : Int) + 1) = (k : Int) + 1 := by unfold wrap64; omega
      by_cases hx : nmsB k = v
      · have HE : Hid (ropN v = opsK k) := by show _ = _; rw [← hx]; exact rop_at k hlt
        rw [hx, ← hV.out] at c1
        clear hx HK
        go_wp2
        go_ret
        exact ⟨by rw [HE.out]; rfl, HG.out⟩
      · have HT : Hid (∀ j, j < k + 1 → nmsB j ≠ v) := fun j hj => by
          by_cases e : j = k
          · subst e; exact hx
          · exact HK.out j (by omega)
        obtain ⟨X, hX⟩ : ∃ X, X = mkB (nmsB k) := ⟨_, rfl⟩
        have hne : (X.toList == V.toList) = false := by rw [hX, hV.out, ByteArray.toList_eq, ByteArray.toList_eq, beq_eq_false_iff_ne]; exact hx
        rw [← hX] at c1
        clear hx HK hX
        go_wp2
        go_round
        case rel => exact ⟨k + 1, by omega, by go_num, HT⟩
        case measure => simp [intOf]; omega
    · obtain rfl : k = 6 := by omega
      have HT : Hid (ropN v = -1) := by show _ = _; exact rop_none v HK.out
      clear HK
      go_wp2
      go_ret
      exact ⟨by rw [HT.out]; rfl, HG.out⟩
/-- How many words a line that may be quiet has. -/
def rmanyN (v : List UInt8) : Int := if v = vb_set ∨ v = vb_add ∨ v = vb_replace ∨ v = vb_append ∨ v = vb_prepend then 5 else if v = vb_cas then 6 else if v = vb_delete then 2 else if v = vb_incr ∨ v = vb_decr ∨ v = vb_touch then 3 else 0
theorem rmany_no {v : List UInt8} (h : NoVerb v) : rmanyN v = 0 := by
  have h_set : ¬ v = vb_set := by simpa using h.set_
  have h_add : ¬ v = vb_add := by simpa using h.add_
  have h_replace : ¬ v = vb_replace := by simpa using h.replace_
  have h_append : ¬ v = vb_append := by simpa using h.append_
  have h_prepend : ¬ v = vb_prepend := by simpa using h.prepend_
  have h_cas : ¬ v = vb_cas := by simpa using h.cas_
  have h_delete : ¬ v = vb_delete := by simpa using h.delete_
  have h_incr : ¬ v = vb_incr := by simpa using h.incr_
  have h_decr : ¬ v = vb_decr := by simpa using h.decr_
  have h_touch : ¬ v = vb_touch := by simpa using h.touch_
  unfold rmanyN
  rw [if_neg (by rintro (h | h | h | h | h) <;> contradiction), if_neg h_cas, if_neg h_delete, if_neg (by rintro (h | h | h) <;> contradiction)]
set_option maxRecDepth 100000 in
set_option maxHeartbeats 4000000 in
theorem rmany_any (v : List UInt8) (w : World) : Calls Tryd.prog 18 #[.string (mkB v)] w fun e w' => e = .returned (.int .i64 (rmanyN v)) ∧ w = w' := by
  rcases verbs v with rfl | rfl | rfl | rfl | rfl | rfl | rfl | rfl | rfl | rfl | rfl | rfl | rfl | rfl | rfl | rfl | rfl | h
  · rw [show rmanyN vb_get = 0 by decide]
    simp only [mkB, vb_get]
    go_enter Tryd.func18, Tryd.ntmps18
    go_wp2
    go_ret
    exact ⟨rfl, rfl⟩
  · rw [show rmanyN vb_gets = 0 by decide]
    simp only [mkB, vb_gets]
    go_enter Tryd.func18, Tryd.ntmps18
    go_wp2
    go_ret
    exact ⟨rfl, rfl⟩
  · rw [show rmanyN vb_gat = 0 by decide]
    simp only [mkB, vb_gat]
    go_enter Tryd.func18, Tryd.ntmps18
    go_wp2
    go_ret
    exact ⟨rfl, rfl⟩
  · rw [show rmanyN vb_gats = 0 by decide]
    simp only [mkB, vb_gats]
    go_enter Tryd.func18, Tryd.ntmps18
    go_wp2
    go_ret
    exact ⟨rfl, rfl⟩
  · rw [show rmanyN vb_set = 5 by decide]
    simp only [mkB, vb_set]
    go_enter Tryd.func18, Tryd.ntmps18
    go_wp2
    go_ret
    exact ⟨rfl, rfl⟩
  · rw [show rmanyN vb_cas = 6 by decide]
    simp only [mkB, vb_cas]
    go_enter Tryd.func18, Tryd.ntmps18
    go_wp2
    go_ret
    exact ⟨rfl, rfl⟩
  · rw [show rmanyN vb_add = 5 by decide]
    simp only [mkB, vb_add]
    go_enter Tryd.func18, Tryd.ntmps18
    go_wp2
    go_ret
    exact ⟨rfl, rfl⟩
  · rw [show rmanyN vb_replace = 5 by decide]
    simp only [mkB, vb_replace]
    go_enter Tryd.func18, Tryd.ntmps18
    go_wp2
    go_ret
    exact ⟨rfl, rfl⟩
  · rw [show rmanyN vb_append = 5 by decide]
    simp only [mkB, vb_append]
    go_enter Tryd.func18, Tryd.ntmps18
    go_wp2
    go_ret
    exact ⟨rfl, rfl⟩
  · rw [show rmanyN vb_prepend = 5 by decide]
    simp only [mkB, vb_prepend]
    go_enter Tryd.func18, Tryd.ntmps18
    go_wp2
    go_ret
    exact ⟨rfl, rfl⟩
  · rw [show rmanyN vb_delete = 2 by decide]
    simp only [mkB, vb_delete]
    go_enter Tryd.func18, Tryd.ntmps18
    go_wp2
    go_ret
    exact ⟨rfl, rfl⟩
  · rw [show rmanyN vb_incr = 3 by decide]
    simp only [mkB, vb_incr]
    go_enter Tryd.func18, Tryd.ntmps18
    go_wp2
    go_ret
    exact ⟨rfl, rfl⟩
  · rw [show rmanyN vb_decr = 3 by decide]
    simp only [mkB, vb_decr]
    go_enter Tryd.func18, Tryd.ntmps18
    go_wp2
    go_ret
    exact ⟨rfl, rfl⟩
  · rw [show rmanyN vb_touch = 3 by decide]
    simp only [mkB, vb_touch]
    go_enter Tryd.func18, Tryd.ntmps18
    go_wp2
    go_ret
    exact ⟨rfl, rfl⟩
  · rw [show rmanyN vb_flush = 0 by decide]
    simp only [mkB, vb_flush]
    go_enter Tryd.func18, Tryd.ntmps18
    go_wp2
    go_ret
    exact ⟨rfl, rfl⟩
  · rw [show rmanyN vb_version = 0 by decide]
    simp only [mkB, vb_version]
    go_enter Tryd.func18, Tryd.ntmps18
    go_wp2
    go_ret
    exact ⟨rfl, rfl⟩
  · rw [show rmanyN vb_quit = 0 by decide]
    simp only [mkB, vb_quit]
    go_enter Tryd.func18, Tryd.ntmps18
    go_wp2
    go_ret
    exact ⟨rfl, rfl⟩
  · rw [rmany_no h]
    have h_set := h.set_
    have h_add := h.add_
    have h_replace := h.replace_
    have h_append := h.append_
    have h_prepend := h.prepend_
    have h_cas := h.cas_
    have h_delete := h.delete_
    have h_incr := h.incr_
    have h_decr := h.decr_
    have h_touch := h.touch_
    simp only [vb_set, vb_add, vb_replace, vb_append, vb_prepend, vb_cas, vb_delete, vb_incr, vb_decr, vb_touch] at h_set h_add h_replace h_append h_prepend h_cas h_delete h_incr h_decr h_touch
    simp only [mkB]
    clear h
    go_enter Tryd.func18, Tryd.ntmps18
    go_wp2
    go_ret
    exact ⟨rfl, rfl⟩
end Go.Proofs.YtfcmnkhfmofioaaDoor
