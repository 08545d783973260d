/- BaseFlips returns true for every bytes, every place and every sign, and writes nothing that was there. Conditions: none. -/
import Derived.Test.YtecljjkbadapeaaDoorAwakeB
import Derived.Laws.IdiomStrings
namespace Go.Proofs.YtecljjkbadapeaaDoor
open Go.RowKit

/-- A text of which one sign is another one is not that of the same bytes. -/
theorem flip_no (es : List Int) (k : Nat) (hk : k < (encB es).length) (c : UInt8) (hc : (encB es)[k] ≠ c) : decB ((encB es).set k c) ≠ some es := by
  intro h
  have h1 := (again h).1
  have h2 := congrArg (fun l => l[k]?) h1
  simp only [List.getElem?_set_self hk, List.getElem?_eq_getElem hk, Option.some.injEq] at h2
  exact hc h2
theorem getD_ints (l : List UInt8) (i : Nat) (h : i < l.length) : (ints l).getD i 0 = (l[i].toNat : Int) := by
  unfold ints
  simp [List.getD, List.getElem?_eq_getElem h]
/-- '[]byte(s)': a row of its own that holds the bytes. -/
theorem bytes_of (S : ByteArray) (w : World) : ∃ C W3, (convert 9 22 (.string S)).run Tryd.prog w = .ok (.slice (some ⟨w.heap.size, 0, none⟩) S.size C) W3 ∧ S.size ≤ C ∧
    (∀ i, i < S.size → W3.cell? ⟨w.heap.size, i, none⟩ = some (.int .u8 ((ints S.data.toList).getD i 0))) ∧ (∀ i, i < S.size → W3.frozen? ⟨w.heap.size, i, none⟩ = false) ∧ Below w.heap.size w W3 ∧ w.heap.size < W3.heap.size := by
  have hr := run_bytes_of_string (P := Tryd.prog) w 9 22 5 S Tryd.underlying9 Tryd.underlying22 Tryd.underlying5
  have hge := grownCap_ge w S.size 0 5
  obtain ⟨C, hC⟩ : ∃ C, C = grownCap w S.size 0 5 := ⟨_, rfl⟩
  rw [← hC] at hr hge
  have hh : (w.drew.alloc (.cells (bytesRow S C) 5 ((bytesRow S C).size, (bytesRow S C).size + 1))).heap[w.heap.size]? = some (.cells (bytesRow S C) 5 ((bytesRow S C).size, (bytesRow S C).size + 1)) := by
    show (w.heap.push _)[w.heap.size]? = _
    simp
  have hsz : (bytesRow S C).size = C := by
    unfold bytesRow
    rw [Array.size_append, Array.size_map, Array.size_replicate]
    have : S.data.size = S.size := rfl
    omega
  refine ⟨C, _, hr, hge, fun i hi => ?_, fun i hi => ?_, ?_, ?_⟩
  · unfold World.cell?
    rw [hh]
    have hi2 : i < S.data.toList.length := by rw [Array.length_toList]; exact hi
    show (bytesRow S C)[i]? = _
    rw [getD_ints _ _ hi2]
    unfold bytesRow
    rw [Array.getElem?_append_left (by rw [Array.size_map]; exact hi), Array.getElem?_map]
    have hi3 : i < S.data.size := hi
    rw [Array.getElem?_eq_getElem hi3]
    rfl
  · unfold World.frozen?
    rw [hh]
    show (decide ((bytesRow S C).size ≤ i) && decide (i < (bytesRow S C).size + 1)) = false
    rw [hsz, decide_eq_false (by omega)]
    rfl
  · exact (Below.refl _ _).drew.alloc (Nat.le_refl _) _
  · show w.heap.size < (w.heap.push _).size
    simp
theorem set_bs {w W : World} {S : ByteArray} {C k : Nat} {t : Int} (hk : k < S.size) (ht : 0 ≤ t ∧ t ≤ 255) (hC : S.size ≤ C)
    (hc : ∀ i, i < S.size → W.cell? ⟨w.heap.size, i, none⟩ = some (.int .u8 ((ints S.data.toList).getD i 0))) (hs : w.heap.size < W.heap.size) :
    Bs (W.setCell ⟨w.heap.size, k, none⟩ (.int .u8 t)) (some ⟨w.heap.size, 0, none⟩) S.size C ((ints S.data.toList).set k t) := by
  have hl : S.data.toList.length = S.size := rfl
  refine .inr ⟨w.heap.size, 0, rfl, by omega, hC, by rw [List.length_set, ints_len]; rfl, fun z hz => ?_, fun i hi => ?_, by rw [World.size_setCell]; exact hs⟩
  · rcases List.mem_or_eq_of_mem_set hz with h | h
    · exact ints_byt _ z h
    · rw [h]; exact ht
  · rw [Nat.zero_add]
    have hil : i < (ints S.data.toList).length := by rw [ints_len]; omega
    by_cases hik : i = k
    · subst hik
      rw [World.cell?_setCell_same (h := hc i hk)]
      simp [List.getD, List.getElem?_set_self hil]
    · rw [World.cell?_setCell_other (h := fun e => hik (congrArg Addr.off e).symm), hc i hi]
      simp [List.getD, List.getElem?_set_ne (fun e : k = i => hik e.symm)]
theorem strOf_set (l : List UInt8) (k : Nat) (t : Int) : (strOf ((ints l).set k t)).data.toList = l.set k (UInt8.ofNat t.toNat) := by
  unfold strOf ints
  show (List.map _ _) = _
  rw [List.map_set, List.map_map]
  congr 1
  conv => rhs; rw [← List.map_id l]
  apply List.map_congr_left
  intro c _
  simp
theorem strOf_ne {a b : List Int} (ha : Byt a) (hb : Byt b) (h : a ≠ b) : ((strOf a).toList == (strOf b).toList) = false := by
  rw [ByteArray.toList_eq, ByteArray.toList_eq, beq_eq_false_iff_ne]
  intro e
  exact h (strOf_inj ha hb (by
    apply ByteArray.ext
    exact Array.ext' e))

set_option maxHeartbeats 4000000 in
theorem baseFlips_in (a : Option Addr) (len cap : Nat) (es : List Int) (k : Nat) (t : Int) (ht : 0 ≤ t ∧ t ≤ 255) (w : World) (h : Bs w a len cap es) (hl : len ≤ 3000) (hk : k < (encB es).length) (hne : ((encB es)[k].toNat : Int) ≠ t) :
    Calls Tryd.prog 8 #[.slice a len cap, .int .i64 k, .int .u8 t] w fun e w' => e = .returned (.bool true) ∧ Below w.heap.size w w' := by
  have hli : (len : Int) ≤ 3000 := by omega
  have hn := h.len_
  obtain ⟨S, hS⟩ : ∃ S : ByteArray, S = ⟨(encB es).toArray⟩ := ⟨_, rfl⟩
  have hSl : S.data.toList = encB es := by rw [hS]
  have hks : k < S.size := by rw [hS, size_arr]; exact hk
  have hsz : S.size ≤ 10000 := by rw [hS, size_arr, enc_len, hn]; omega
  have hval : (ints S.data.toList).getD k 0 = ((encB es)[k].toNat : Int) := by
    rw [hSl, getD_ints _ _ hk]
  have HEn := hide (fun (W : World) (hB : Below w.heap.size w W) => by have := encode_any (h.on hB) (by omega); rw [← hS] at this; exact this)
  obtain ⟨T, hT⟩ : ∃ T, T = strOf ((ints S.data.toList).set k t) := ⟨_, rfl⟩
  have hTl : T.data.toList = (encB es).set k (UInt8.ofNat t.toNat) := by rw [hT, strOf_set, hSl]
  have hTz : T.size ≤ 10000 := by
    have h1 : T.data.toList.length = T.size := rfl
    rw [← h1, hTl, List.length_set]
    have h2 : S.data.toList.length = S.size := rfl
    rw [← hSl, h2]
    exact hsz
  have hfn := flip_no es k hk (UInt8.ofNat t.toNat) (by
    intro e
    apply hne
    rw [e, UInt8.toNat_ofNat']
    omega)
  rw [← hTl] at hfn
  obtain ⟨y, hy⟩ : ∃ y : Int, y = ((encB es)[k].toNat : Int) := ⟨_, rfl⟩
  rw [← hy] at hval hne
  have hyt : (y == t) = false := by simpa using hne
  have hki : (k : Int) < (S.size : Int) := by omega
  have HBs := hide h
  have HV := hide hval
  have HT := hide hT
  have HBd := hide h.bd
  clear hS hSl hTl hT h hn hk hval hne hy
  cases hd : decB T.data.toList with
  | none =>
    have HDe := hide (fun (W : World) => decode_no T (by omega) hd W)
    clear hd hfn
    go_enter Tryd.func8, Tryd.ntmps8
    go_wp2_with (first
      | (go_at_call 9; refine (awake_any _).mono ?_; rintro e w1 ⟨rfl, h1⟩)
      | (go_at_call 12; refine (HEn.out _ h1).mono ?_; rintro e w2 ⟨rfl, h2⟩; have h12 := Bt h1 h2; obtain ⟨C, w3, hcv, hC, hc, hf, h3, hs3⟩ := bytes_of S w2; have hck := hc k hks; have hfk := hf k hks; rw [HV.out] at hck; have hB3 := set_bs (w := w2) hks ht hC hc hs3; have hcv2 := conv_bs hB3; rw [← HT.out] at hcv2; have h4 := (Bt h12 h3).setCell (p := ⟨w2.heap.size, k, none⟩) h12.size (.int .u8 t); clear hc hf hB3)
      | (go_at_call 10; refine (HDe.out _).mono ?_; rintro e w5 ⟨rfl, h5⟩; have h15 := Bt h4 h5))
    go_ret
    exact ⟨rfl, h15⟩
  | some o =>
    have HDe := hide (fun (W : World) => decode_yes T (by omega) o hd W)
    have hoe : o ≠ es := fun e => hfn (by rw [hd, e])
    have hbo := (again hd).2
    have hst := strOf_ne hbo HBd.out hoe
    clear hd hfn hoe hbo
    obtain ⟨n, hn⟩ : ∃ n, n = o.length := ⟨_, rfl⟩
    rw [← hn] at HDe
    clear hn
    go_enter Tryd.func8, Tryd.ntmps8
    go_wp2_with (first
      | (go_at_call 9; refine (awake_any _).mono ?_; rintro e w1 ⟨rfl, h1⟩)
      | (go_at_call 12; refine (HEn.out _ h1).mono ?_; rintro e w2 ⟨rfl, h2⟩; have h12 := Bt h1 h2; obtain ⟨C, w3, hcv, hC, hc, hf, h3, hs3⟩ := bytes_of S w2; have hck := hc k hks; have hfk := hf k hks; rw [HV.out] at hck; have hB3 := set_bs (w := w2) hks ht hC hc hs3; have hcv2 := conv_bs hB3; rw [← HT.out] at hcv2; have h4 := (Bt h12 h3).setCell (p := ⟨w2.heap.size, k, none⟩) h12.size (.int .u8 t); clear hc hf hB3)
      | (go_at_call 10; refine (HDe.out _).mono ?_; rintro e w5 ⟨a5, c5, rfl, hbs, h5⟩; have h15 := Bt h4 h5; have hv1 := conv_bs hbs; have hv2 := conv_bs (HBs.out.on h15)))
    go_ret
    exact ⟨rfl, h15⟩

set_option maxHeartbeats 4000000 in
theorem baseFlips_same (a : Option Addr) (len cap : Nat) (es : List Int) (k : Nat) (t : Int) (w : World) (h : Bs w a len cap es) (hl : len ≤ 3000) (hk : k < (encB es).length) (hne : ((encB es)[k].toNat : Int) = t) :
    Calls Tryd.prog 8 #[.slice a len cap, .int .i64 k, .int .u8 t] w fun e w' => e = .returned (.bool true) ∧ Below w.heap.size w w' := by
  have hli : (len : Int) ≤ 3000 := by omega
  obtain ⟨S, hS⟩ : ∃ S : ByteArray, S = ⟨(encB es).toArray⟩ := ⟨_, rfl⟩
  have hSl : S.data.toList = encB es := by rw [hS]
  have hks : k < S.size := by rw [hS, size_arr]; exact hk
  have HV : Hid ((ints S.data.toList).getD k 0 = t) := by
    show _ = _
    rw [hSl, getD_ints _ _ hk, hne]
  have HEn := hide (fun (W : World) (hB : Below w.heap.size w W) => by have := encode_any (h.on hB) (by omega); rw [← hS] at this; exact this)
  have hki : (k : Int) < (S.size : Int) := by omega
  clear hS hSl h hk hne
  go_enter Tryd.func8, Tryd.ntmps8
  go_wp2_with (first
    | (go_at_call 9; refine (awake_any _).mono ?_; rintro e w1 ⟨rfl, h1⟩)
    | (go_at_call 12; refine (HEn.out _ h1).mono ?_; rintro e w2 ⟨rfl, h2⟩; have h12 := Bt h1 h2; obtain ⟨C, w3, hcv, hC, hc, hf, h3, hs3⟩ := bytes_of S w2; have h13 := Bt h12 h3; have hck := hc k hks; have hfk := hf k hks; rw [HV.out] at hck; clear hc hf))
  go_ret
  exact ⟨rfl, h13⟩

set_option maxHeartbeats 4000000 in
theorem baseFlips_low (a : Option Addr) (len cap : Nat) (es : List Int) (k t : Int) (w : World) (h : Bs w a len cap es) (hl : len ≤ 3000) (hk : k < 0) :
    Calls Tryd.prog 8 #[.slice a len cap, .int .i64 k, .int .u8 t] w fun e w' => e = .returned (.bool true) ∧ Below w.heap.size w w' := by
  have hli : (len : Int) ≤ 3000 := by omega
  obtain ⟨S, hS⟩ : ∃ S : ByteArray, S = ⟨(encB es).toArray⟩ := ⟨_, rfl⟩
  have HEn := hide (fun (W : World) (hB : Below w.heap.size w W) => by have := encode_any (h.on hB) (by omega); rw [← hS] at this; exact this)
  clear hS h
  go_enter Tryd.func8, Tryd.ntmps8
  go_wp2_with (first
    | (go_at_call 9; refine (awake_any _).mono ?_; rintro e w1 ⟨rfl, h1⟩)
    | (go_at_call 12; refine (HEn.out _ h1).mono ?_; rintro e w2 ⟨rfl, h2⟩; have h12 := Bt h1 h2; obtain ⟨C, w3, hcv, hC, hc, hf, h3, hs3⟩ := bytes_of S w2; have h13 := Bt h12 h3; clear hc hf))
  go_ret
  exact ⟨rfl, h13⟩

set_option maxHeartbeats 4000000 in
theorem baseFlips_high (a : Option Addr) (len cap : Nat) (es : List Int) (k t : Int) (w : World) (h : Bs w a len cap es) (hl : len ≤ 3000) (hk0 : 0 ≤ k) (hk : ((encB es).length : Int) ≤ k) :
    Calls Tryd.prog 8 #[.slice a len cap, .int .i64 k, .int .u8 t] w fun e w' => e = .returned (.bool true) ∧ Below w.heap.size w w' := by
  have hli : (len : Int) ≤ 3000 := by omega
  obtain ⟨S, hS⟩ : ∃ S : ByteArray, S = ⟨(encB es).toArray⟩ := ⟨_, rfl⟩
  have hks : (S.size : Int) ≤ k := by rw [hS, size_arr]; exact hk
  have HEn := hide (fun (W : World) (hB : Below w.heap.size w W) => by have := encode_any (h.on hB) (by omega); rw [← hS] at this; exact this)
  clear hS h hk
  go_enter Tryd.func8, Tryd.ntmps8
  go_wp2_with (first
    | (go_at_call 9; refine (awake_any _).mono ?_; rintro e w1 ⟨rfl, h1⟩)
    | (go_at_call 12; refine (HEn.out _ h1).mono ?_; rintro e w2 ⟨rfl, h2⟩; have h12 := Bt h1 h2; obtain ⟨C, w3, hcv, hC, hc, hf, h3, hs3⟩ := bytes_of S w2; have h13 := Bt h12 h3; clear hc hf))
  go_ret
  exact ⟨rfl, h13⟩

set_option maxHeartbeats 2000000 in
theorem baseFlips_out (a : Option Addr) (len cap : Nat) (k t : Int) (w : World) (hl : 3000 < len) :
    Calls Tryd.prog 8 #[.slice a len cap, .int .i64 k, .int .u8 t] w fun e w' => e = .returned (.bool true) ∧ Below w.heap.size w w' := by
  have hli : (3000 : Int) < (len : Int) := by omega
  go_enter Tryd.func8, Tryd.ntmps8
  go_wp2_with (go_at_call 9; refine (awake_any _).mono ?_; rintro e w1 ⟨rfl, h1⟩)
  go_ret
  exact ⟨rfl, h1⟩

theorem baseFlips_walk (W : World) (a0 : Option Addr) (len0 cap0 : Nat) (z0 : List Int) (w0 : IsRow .u8 W a0 len0 cap0 z0) (k : Int) (_w1 : (Lit.int .i64 k).wf = true) (t : Int) (w2 : (Lit.int .u8 t).wf = true) :
    Calls Tryd.prog 8 #[.slice a0 len0 cap0, .int .i64 k, .int .u8 t] W fun e W' => e = .returned (.bool true) ∧ Below W.heap.size W W' := by
  have ht : 0 ≤ t ∧ t ≤ 255 := by
    have e1 : IntKind.u8.min = 0 := rfl
    have e2 : IntKind.u8.max = 255 := rfl
    simp [Lit.wf, e1, e2] at w2
    exact w2
  by_cases h : len0 ≤ 3000
  · by_cases h0 : k < 0
    · exact baseFlips_low a0 len0 cap0 _ k t W w0.bs h h0
    · by_cases h1 : ((encB (z0.take len0)).length : Int) ≤ k
      · exact baseFlips_high a0 len0 cap0 _ k t W w0.bs h (by omega) h1
      · obtain ⟨n, rfl⟩ := Int.eq_ofNat_of_zero_le (show 0 ≤ k by omega)
        have hn : n < (encB (z0.take len0)).length := by omega
        by_cases h2 : ((encB (z0.take len0))[n].toNat : Int) = t
        · exact baseFlips_same a0 len0 cap0 _ n t W w0.bs h hn h2
        · exact baseFlips_in a0 len0 cap0 _ n t ht W w0.bs h hn h2
  · exact baseFlips_out a0 len0 cap0 k t W (by omega)
end Go.Proofs.YtecljjkbadapeaaDoor
