/- Package binout's Read: the answer that bytes begin with, or none. Conditions: at most 200000 bytes. -/
import Derived.Test.YtaafkefgpgoepaaPoRead2
import Derived.Test.YtaafkefgpgoepaaBoLib
namespace Go.Proofs.Ytaafkefgpgoepaa
set_option linter.unusedVariables false
set_option linter.unusedSimpArgs false
open Go.RowKit Go.Shelf

theorem u16_idP {z : Int} (h0 : 0 ≤ z) (h1 : z ≤ 65535) : IntKind.u16.wrap z = z := by
  simp only [IntKind.wrap, IntKind.signed, IntKind.bits, Bool.false_and, Bool.false_eq_true, if_false]
  omega
theorem part_take (b : List UInt8) {i n m : Nat} (h : i + n ≤ m) : ((b.take m).drop i).take n = (b.drop i).take n := by
  rw [List.drop_take, List.take_take]
  congr 1
  omega
theorem by4_take (b : List UInt8) {m : Nat} (h : 24 ≤ m) : by4 (b.take m) = by4 b := by
  unfold by4
  rw [List.getD_eq_getElem?_getD, List.getD_eq_getElem?_getD, List.getElem?_take, if_pos (by omega)]
theorem results_six {P : Program} {fn : Func} {t1 t2 t3 t4 p t6 : Tmp} {ty : TypeId} (h : fn.results = #[.tmp t1, .tmp t2, .tmp t3, .tmp t4, .cell p ty, .tmp t6]) (tmps : Array Value) (w : World) (g : Nat) (t : TypeId) (cs : Array Value) (fr : Nat × Nat) (d : TypeDesc)
    (hp : tmps.getD p undef = .pointer (some ⟨g, 0, none⟩)) (hg : w.heap[g]? = some (.cells cs t fr))
    (hu : P.underlying ty = some d) (hd : (match d with | .struct _ | .array _ _ => true | _ => false) = true) (hi : (P.info? ty).map (·.size) = some cs.size) :
    (results fn tmps).run P w = .ok (.tuple #[tmps.getD t1 undef, tmps.getD t2 undef, tmps.getD t3 undef, tmps.getD t4 undef, .agg cs, tmps.getD t6 undef]) w := by
  have hp' : tmps[p]?.getD undef = .pointer (some ⟨g, 0, none⟩) := by simpa using hp
  simp [results, h, hp', asAddr, run_loadVar_row w g t ty cs fr d hg hu hd hi]
section
variable {w : World} {a : Option Addr} {g off len cap : Nat} {b : List UInt8}
set_option maxRecDepth 100000 in
set_option maxHeartbeats 4000000 in
theorem pread_no (HM : ∀ W, w.grownBy W none → Calls Try.prog 22 #[.slice a len cap] W fun e w' => e = .returned (.int .i64 0) ∧ w' = W) :
    Calls Try.prog 14 #[.slice a len cap] w fun e w' => RdT noA w e w' := by
  have P0 := PtS.make w (pt3 none 0 0 none 0 0 none 0 0)
  obtain ⟨V, hV⟩ : ∃ V, V = w.alloc (.cells (pt3 none 0 0 none 0 0 none 0 0) 38) := ⟨_, rfl⟩
  obtain ⟨B, hB⟩ : ∃ B, B = w.heap.size := ⟨_, rfl⟩
  rw [← hV, ← hB] at P0
  have HE := hide (HM V P0.gr)
  replace P0 := hide P0
  clear HM
  simp only [pt3] at hV
  go_enter Try.func14, Try.ntmps14
  go_upto_region 1 with fail
  rw [← hV, ← hB]
  clear hV hB
  go_wp2_with (go_at_call 22; refine HE.out.mono ?_; rintro e w2 ⟨rfl, hw2⟩; rw [hw2]; clear hw2)
  refine bodyPost_ret (results_six rfl _ _ B 38 (pt3 none 0 0 none 0 0 none 0 0) (0, 0) _ rfl P0.out.row Try.underlying38 rfl (pt3_size _ _ _ _ _ _ _ _ _)) rfl ?_
  exact ⟨none, 0, none, 0, none, 0, rfl, ⟨rfl, .inl ⟨rfl, rfl, fun _ => rfl⟩, Nat.le_refl _, Nat.zero_le _⟩, ⟨rfl, .inl ⟨rfl, rfl, fun _ => rfl⟩, Nat.le_refl _, Nat.zero_le _⟩, ⟨rfl, .inl ⟨rfl, rfl, fun _ => rfl⟩, Nat.le_refl _, Nat.zero_le _⟩, P0.out.gr⟩
set_option maxRecDepth 100000 in
set_option maxHeartbeats 4000000 in
theorem pread_yes (h : Bu w (some ⟨g, off, none⟩) len cap b) (hm : len ≤ 200000) (hr : readP b) {x k v : Nat} (hx : by4 b = (x : Int)) (hk : getB b 2 2 = (k : Int)) (hl : getB b 8 4 = ((x + k + v : Nat) : Int)) :
    Calls Try.prog 14 #[.slice (some ⟨g, off, none⟩) len cap] w fun e w' => RdT (readV b x k v) w e w' := by
  have hn := h.n
  have hc := h.c
  have hr' := hr
  obtain ⟨h24, h129, h20, hfit, hsum⟩ := hr
  rw [hn] at h24 hfit
  rw [hl] at h20 hfit hsum
  have P0 := PtS.make w (pt3 none 0 0 none 0 0 none 0 0)
  obtain ⟨V, hV⟩ : ∃ V, V = w.alloc (.cells (pt3 none 0 0 none 0 0 none 0 0) 38) := ⟨_, rfl⟩
  obtain ⟨B, hB⟩ : ∃ B, B = w.heap.size := ⟨_, rfl⟩
  rw [← hV, ← hB] at P0
  have hV1 : Bu V (some ⟨g, off, none⟩) len cap b := h.on (below_gr P0.gr)
  have HE := hide (pmeas_yes hV1 hm hr')
  obtain ⟨m, hmm⟩ : ∃ m, m = 24 + x + k + v := ⟨_, rfl⟩
  have eL : Hid (24 + ((x + k + v : Nat) : Int) = (m : Int)) := by show _ = _; rw [hmm]; push_cast; omega
  rw [hl, eL.out] at HE
  have c1 : V.cell? ⟨g, off + 1, none⟩ = some (.int .u8 (by1 b)) := first_byteD hV1 1 (by omega)
  have H6 := hide (pget_any (hV1.part3 6 2 (by omega)) (by decide) (by decide))
  have H12 := hide (pget_any (hV1.part3 12 4 (by omega)) (by decide) (by decide))
  have H16 := hide (pget_any (hV1.part3 16 8 (by omega)) (by decide) (by decide))
  rw [show numB ((b.drop 6).take 2) = getB b 6 2 from rfl] at H6
  rw [show numB ((b.drop 12).take 4) = getB b 12 4 from rfl] at H12
  rw [show numB ((b.drop 16).take 8) = getB b 16 8 from rfl] at H16
  have y0 := (numB_bd ((b.drop 6).take 2)).1
  have y1 := numB_two (l := (b.drop 6).take 2) (by rw [List.length_take, List.length_drop]; omega)
  have o0 := (numB_bd ((b.drop 12).take 4)).1
  have o1 := numB_four (l := (b.drop 12).take 4) (by rw [List.length_take, List.length_drop]; omega)
  have i1 : IntKind.u16.wrap (getB b 6 2) = getB b 6 2 := u16_idP y0 y1
  have i2 : IntKind.u32.wrap (getB b 12 4) = getB b 12 4 := u32_id o0 o1
  have i3 : IntKind.i64.wrap (by1 b) = by1 b := i64_id (Int.natCast_nonneg _) (by have := UInt8.toNat_lt (b.getD 1 0); unfold by1; omega)
  obtain ⟨sp, bp⟩ := h.pre3 (m := m) (by omega) (m : Int) rfl
  have HC := hide (pcut_any (x := x) (k := k) (v := v) (bp V hV1) (by rw [by4_take b (by omega)]; exact hx) (by unfold getB; rw [part_take b (by omega)]; exact hk) hmm (by omega))
  rw [part_take b (by omega), part_take b (by omega), part_take b (by omega)] at HC
  have lx : Hid ((readV b x k v).x.length = x) := by show ((b.drop 24).take x).length = x; rw [List.length_take, List.length_drop]; omega
  have lk : Hid ((readV b x k v).key.length = k) := by show ((b.drop (24 + x)).take k).length = k; rw [List.length_take, List.length_drop]; omega
  have lv : Hid ((readV b x k v).v.length = v) := by show ((b.drop (24 + x + k)).take v).length = v; rw [List.length_take, List.length_drop]; omega
  replace P0 := hide P0
  have zm : ((m : Int) == 0) = false := by rw [beq_eq_false_iff_ne]; omega
  have l1 : (1 : Int) < (len : Int) := by omega
  have d6 : (6 : Int) ≤ (cap : Int) := by omega
  have d8 : (8 : Int) ≤ (cap : Int) := by omega
  have d12 : (12 : Int) ≤ (cap : Int) := by omega
  have d16 : (16 : Int) ≤ (cap : Int) := by omega
  have d24 : (24 : Int) ≤ (cap : Int) := by omega
  have m6 : ¬ cap = 6 := by omega
  have m12 : ¬ cap = 12 := by omega
  have m16 : ¬ cap = 16 := by omega
  have N1 : Hid (w = w) := rfl
  clear h hV1 hm hr' hx hk hl hn hc h24 h129 h20 hfit hsum y0 y1 o0 o1 bp hmm
  simp only [pt3] at hV
  go_enter Try.func14, Try.ntmps14
  go_upto_region 1 with fail
  rw [← hV, ← hB]
  clear hV hB
  go_wp2_with (first
    | (go_at_call 22; refine HE.out.mono ?_; rintro e w2 ⟨rfl, hw2⟩; rw [hw2]; clear hw2)
    | (have t := N1; clear t; go_at_call 23; go_loud (refine H6.out.mono ?_; rintro e w2 ⟨rfl, hw2⟩; rw [hw2]; clear hw2 N1; have N2 : Hid (w = w) := rfl))
    | (have t := N2; clear t; go_at_call 23; go_loud (refine H12.out.mono ?_; rintro e w2 ⟨rfl, hw2⟩; rw [hw2]; clear hw2 N2; have N3 : Hid (w = w) := rfl))
    | (have t := N3; clear t; go_at_call 23; go_loud (refine H16.out.mono ?_; rintro e w2 ⟨rfl, hw2⟩; rw [hw2]; clear hw2 N3))
    | (go_at_call 24; go_loud (refine HC.out.mono ?_; rintro e w2 ⟨xa, xc, ka, kc, va, vc, rfl, b1, g2⟩; have P1 := P0.out.on g2; obtain ⟨W4, e4, P4, q4⟩ : ∃ W4, w2.setRow B (pt3 xa x xc ka k kc va v vc) = W4 ∧ PtS w W4 B (pt3 xa x xc ka k kc va v vc) ∧ w2.grownBy W4 (some B) := ⟨_, rfl, (P1.again _).1, (P1.again _).2⟩; replace P1 := hide P1; replace P4 := hide P4; replace b1 := hide (b1 W4 (Hi.of q4 P0.out.lt)); replace q4 := hide q4; replace g2 := hide g2; replace e4 := hide e4))
    | (refine wpList_store_row rfl 38 _ _ rfl B (pt3 xa x xc ka k kc va v vc) rfl rfl _ _ P1.out.row (pt3_size _ _ _ _ _ _ _ _ _) rfl (pt3_one _ _ _ _ _ _ _ _ _) ?_; rw [e4.out]; clear e4))
  refine bodyPost_ret (results_six rfl _ _ B 38 (pt3 xa x xc ka k kc va v vc) (0, 0) _ rfl P4.out.row Try.underlying38 rfl (pt3_size _ _ _ _ _ _ _ _ _)) rfl ?_
  refine ⟨xa, xc, ka, kc, va, vc, ?_, ?_, ?_, ?_, P4.out.gr⟩
  · unfold ptC
    rw [lx.out, lk.out, lv.out]
    show _ = Ending.returned (.tuple #[.int .i64 (by1 b), .int .u16 (getB b 6 2), .int .u32 (getB b 12 4), .int .u64 (getB b 16 8), .agg (pt3 xa x xc ka k kc va v vc), .int .i64 (24 + ((x + k + v : Nat) : Int))])
    rw [eL.out]
    rfl
  · rw [lx.out]; exact b1.out.1
  · rw [lk.out]; exact b1.out.2.1
  · rw [lv.out]; exact b1.out.2.2
/-- Package binout's Read. -/
theorem pread_any (w : World) (a : Option Addr) (len cap : Nat) (b : List UInt8) (v : Av) (h : Bu w a len cap b) (hm : len ≤ 200000) (hv : ReadsA b v) : Calls Try.prog 14 #[.slice a len cap] w fun e w' => RdT v w e w' := by
  have hn := h.n
  by_cases h24 : len < 24
  · rcases hv with ⟨_, rfl⟩ | ⟨⟨h1, _⟩, _⟩
    · exact pread_no fun W _ => pmeas_short h24
    · omega
  · obtain ⟨g, off, rfl⟩ : ∃ g off, a = some ⟨g, off, none⟩ := by
      rcases h.b with ⟨h1, _, _⟩ | ⟨g, off, r⟩
      · omega
      · exact ⟨g, off, r.at_⟩
    rcases hv with ⟨h1, rfl⟩ | ⟨h1, x, k, v, e1, e2, e3, rfl⟩
    · exact pread_no fun W hg => pmeas_no (h.on (below_gr hg)) (by omega) hm h1
    · exact pread_yes h hm h1 e1 e2 e3
end
end Go.Proofs.Ytaafkefgpgoepaa
