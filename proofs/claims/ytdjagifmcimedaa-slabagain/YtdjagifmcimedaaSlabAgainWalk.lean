/- SlabAgain returns true for every budget and all calls, and writes nothing that was there. Conditions: the contracts of package slab. -/
import Derived.Test.YtdjagifmcimedaaSlabAgainM
import Derived.BigQuiet
import Derived.Deep.RegionWith
namespace Go.Proofs.Ytdjagifmcimedaa
open Go.RowKit
variable {Sl : World → Nat → (Nat → Prop) → Sb → Prop}

/-- Both slices, and the slab. -/
abbrev Two (Sl : World → Nat → (Nat → Prop) → Sb → Prop) (w0 w : World) (b : Nat) (own : Nat → Prop) (st : Sb) (va ve : Value) (n : Nat) (A : List Ck) (E : List Int) : Prop :=
  LawR Sl w0 w b own st 35 2 va n (cksV A) (fun k => ve.ownBlock = some k) (fun V => V.ownsRow w0.heap.size 23 1 ve n (errV E))
theorem info_err : (Try.prog.info? 23).map (fun i => (i.zero, i.size, i.bytes)) = some (some (.int .i64 0), 1, 8) := by kernel_rfl

set_option maxRecDepth 100000 in
set_option maxHeartbeats 4000000 in
theorem slabAgain_in (L : SlabLib Sl) (bud : Int) (hbud : I64 bud) {w : World} {a : Option Addr} {len cap : Nat} {os : List Op7} (h : OpsAt w a len cap os) (hlen : len ≤ 100) :
    Calls Try.prog 6 #[.int .i64 bud, .slice a len cap] w fun e w' => e = .returned (.bool true) ∧ Below w.heap.size w w' := by
  have hl := h.len_
  have hli : (len : Int) ≤ 100 := by omega
  obtain ⟨i0, hi, hz0, hz1, hz2⟩ := info_parts info_chunk
  obtain ⟨i1, hi1, hy0, hy1, hy2⟩ := info_parts info_err
  have hB : Below w.heap.size w w := Below.refl _ _
  obtain ⟨sz, hsz⟩ : ∃ sz : Nat → Int, ∀ (i : Nat) (hi : i < os.length), sz i = os[i].sz := ⟨fun i => if hi : i < os.length then os[i].sz else 0, fun i hi => by simp [hi]⟩
  have HSZ := hide hsz
  clear hsz
  go_enter Try.func6, Try.ntmps6
  go_wp2_with (first
    | (go_at_call 8; refine (awake_any L _).mono ?_; rintro e w1 ⟨rfl, hb⟩; replace hB := Bt hB hb; clear hb)
    | (go_at_call 13; refine (new_is L bud hbud hB).mono ?_; clear hB; rintro e w2 ⟨b, own, rfl, H⟩))
  go_loopw [7, 8, 9] (fun va ve i wr => ∃ (k : Nat) (own : Nat → Prop), k ≤ len ∧ i = .int .i64 k ∧ Two Sl w wr b own (SA bud sz k) va ve k (aC bud sz k) (eC bud sz k)) (fun _ _ i _ => len - (intOf i).toNat)
  case atStart => exact ⟨0, own, Nat.zero_le _, rfl, (LawR.nil H).more⟩
  case round =>
    clear H
    obtain ⟨k, own, hk, rfl, HR⟩ := hrel
    by_cases hlt : k < len
    · obtain ⟨ca, off, rfl, hcell, hok⟩ := h.at k (by omega)
      have hs1 := (hcell.on (Nat.le_refl _) HR.law.below).sz
      have hzi := hok.sz
      rw [← HSZ.out k (by omega)] at hs1 hzi
      have hsm2 : Small (SA bud sz k) 10000 := small_mono (sa_small bud sz k) (by omega)
      obtain ⟨⟨x, y⟩, hc⟩ : ∃ c, takeCk (SA bud sz k) (sz k) = c := ⟨_, rfl⟩
      obtain ⟨er, he⟩ : ∃ e, takeErr (SA bud sz k) (sz k) = e := ⟨_, rfl⟩
      have HAA := hide (aC_succ bud sz k)
      have HEE := hide (eC_succ bud sz k)
      rw [hc] at HAA
      rw [he] at HEE
      have HC := hide hc
      have HE := hide he
      have HT : Hid (takeS (SA bud sz k) (sz k) = SA bud sz (k + 1)) := rfl
      clear hc he
      generalize sz k = s at *
      go_wp2_with (first
        | (go_at_call 15; refine (take_is L HR.law hsm2 s hzi x y er _ HC.out HE.out HT.out).mono ?_; rintro e w3 ⟨rfl, own3, H3⟩; have H4 := (HR.to H3).step L (World.grownBy_alloc w3 (.cells #[.int .i64 x, .int .i64 y] 35) none); have HRow := hide H4.row)
        | (at_builtin; refine wpList_append_own_at _ rfl _ _ 33 rfl w.heap.size 35 i0 (.agg #[.int .i64 0, .int .i64 0]) 2 16 Try.underlying33 hi hz0 hz1 hz2 rfl (by decide) _ _ _ rfl (HRow.out.alloc _) ⟨_, 0, none⟩ 1 1 [_, _] rfl rfl (cell_two_more _ _ _ _ _) (by simp [Value.oneCell']) (by unfold maxLen; omega) (by omega) (hbase2 H4.law.below.size) ?_; intro v' w5 hown' hgrow _ hat; have H5 := (H4.app L hown' hgrow hat).swap; have HRow2 := hide H5.row)
        | (at_builtin; refine wpList_append_own_at _ rfl _ _ 44 rfl w.heap.size 23 i1 (.int .i64 0) 1 8 Try.underlying44 hi1 hy0 hy1 hy2 rfl (by decide) _ _ _ rfl (HRow2.out.alloc _) ⟨_, 0, none⟩ 1 1 [_] rfl rfl (cell_one_new _ _ _) (by simp [Value.oneCell']) (by unfold maxLen; omega) (by omega) (hbase2 H5.law.below.size) ?_; intro v6 w6 hown6 hgrow6 _ hat6; have H6 := (H5.app L hown6 hgrow6 hat6).swap))
      go_roundw
      case rel =>
        refine ⟨k + 1, own3, by omega, by go_num, ?_⟩
        show LawR _ _ _ _ _ _ _ _ _ _ _ _ _
        rw [HAA.out, HEE.out, cksV_app]
        unfold errV at H6 ⊢
        rw [List.map_append]
        exact H6
      case measure => simp [intOf]; omega
    · obtain rfl : k = len := by omega
      clear hk hlt
      obtain ⟨pa, ca, rfl⟩ := own_shape HR.row
      obtain ⟨pe, ce, rfl⟩ := own_shape HR.law.q.1
      obtain ⟨m0, hm0⟩ : ∃ m, usedS (SA bud sz k) = m := ⟨_, rfl⟩
      have HU := hide hm0
      have hfs := sa_small bud sz k
      have hsm2 : Small (SA bud sz k) 10000 := small_mono hfs (by omega)
      have hfg := sa_good bud sz k
      have HX : Hid (∀ j, j ≤ k → ∃ e, (SA bud sz k).inn = (SA bud sz j).inn ++ e) := fun j hj => by
        obtain ⟨d, rfl⟩ := Nat.le.dest hj
        exact sa_ext bud sz j d
      have HBS := hide (back_self (sa_gone bud sz k))
      have hsb : ∀ j, j ≤ k → Small (back (SA bud sz j) (SA bud sz k)) 10000 := fun j hj => by
        obtain ⟨e, he⟩ := HX.out j hj
        exact small_mono (back_small hfs he) (by omega)
      have HSB := hide hsb
      obtain ⟨fin, hfin⟩ : ∃ f, SA bud sz k = f := ⟨_, rfl⟩
      rw [hfin] at HR HU hfs hsm2 hfg HX HBS HSB
      have HFIN := hide hfin
      clear hfin hm0 hsb
      go_wp2_with (go_at_call 23; refine (used_is L HR.law hsm2 m0 HU.out).mono ?_; rintro e w3 ⟨rfl, H3⟩; replace HR := HR.to H3; clear H3)
      go_loopw [13] (fun i wr => ∃ (m : Nat) (own : Nat → Prop), m ≤ k ∧ i = .int .i64 ((m : Int) - 1) ∧ Two Sl w wr b own (back (SA bud sz m) fin) (.slice pa k ca) (.slice pe k ce) k (aC bud sz k) (eC bud sz k)) (fun i _ => (intOf i + 1).toNat)
      case atStart => exact ⟨k, own, Nat.le_refl _, rfl, by rw [HFIN.out, HBS.out]; exact HR⟩
      case round =>
        clear HR
        obtain ⟨m, own, hm, rfl, HR⟩ := hrel
        cases m with
        | succ m =>
          rw [show ((m + 1 : Nat) : Int) - 1 = (m : Int) by omega]
          have hmk : m < k := by omega
          obtain ⟨g, ca', e1⟩ := own_form HR.row (by omega)
          obtain ⟨g', ce', e2⟩ := own_form HR.law.q.1 (by omega)
          cases e1
          cases e2
          obtain ⟨c0, c1⟩ := chunk_cells HR.row m (by rw [aC_len]; exact hmk)
          have c2 := err_cells HR.law.q.1 m (by rw [eC_len]; exact hmk)
          rw [aC_get] at c0 c1
          rw [eC_get] at c2
          obtain ⟨⟨x, y⟩, hc⟩ : ∃ c, takeCk (SA bud sz m) (sz m) = c := ⟨_, rfl⟩
          obtain ⟨er, her⟩ : ∃ e, takeErr (SA bud sz m) (sz m) = e := ⟨_, rfl⟩
          rw [hc] at c0 c1
          rw [her] at c2
          obtain ⟨ext, hext⟩ := HX.out (m + 1) hm
          by_cases he : er = 0
          · subst he
            obtain ⟨hx, hy⟩ : CkOk (x, y) := by rw [← hc]; exact take_ok (sa_good bud sz m) (small_mono (sa_small bud sz m) (by omega)) _
            obtain ⟨f0, f1⟩ := again_free hfg (sz m) hext her
            rw [hc] at f0 f1
            have F0 := hide f0
            have F1 := hide f1
            have hsb := HSB.out (m + 1) hm
            clear hc her f0 f1 hext
            go_wp2_with (go_at_call 17; refine (free_is L HR.law hsb x y hx hy 0 _ F0.out F1.out).mono ?_; rintro e w4 ⟨rfl, own4, H4⟩; replace HR := HR.to H4; clear H4)
            go_roundw
            case rel => exact ⟨m, own4, by omega, by go_num, HR⟩
            case measure => simp [intOf]
          · have hbk := back_not (fin := fin) (sz m) (by rw [her]; exact he)
            have hne : (er == 0) = false := beq_eq_false_iff_ne.2 he
            have HBK : Hid (back (SA bud sz (m + 1)) fin = back (SA bud sz m) fin) := hbk
            clear hc her hext hbk he
            go_wp2
            go_roundw
            case rel => exact ⟨m, own, by omega, by go_num, by rw [← HBK.out]; exact HR⟩
            case measure => simp [intOf]
        | zero =>
          have hs0 := HSB.out 0 (Nat.zero_le _)
          have HU0 : Hid (usedS (back (SA bud sz 0) fin) = 0) := rfl
          go_wp2_with (go_at_call 23; refine (used_is L HR.law hs0 0 HU0.out).mono ?_; rintro e w4 ⟨rfl, H4⟩; replace HR := HR.to H4; clear H4)
          go_loopw [15] (fun i wr => ∃ (j : Nat) (own : Nat → Prop), j ≤ k ∧ i = .int .i64 j ∧ Two Sl w wr b own (back (SA bud sz j) fin) (.slice pa k ca) (.slice pe k ce) k (aC bud sz k) (eC bud sz k)) (fun i _ => k - (intOf i).toNat)
          case atStart => exact ⟨0, own, Nat.zero_le _, rfl, HR⟩
          case round =>
            clear HR hs0
            obtain ⟨j, own, hj, rfl, HR⟩ := hrel
            by_cases hjk : j < k
            · obtain ⟨cb, off, rfl, hcell, hok⟩ := h.at j (by omega)
              have hs1 := (hcell.on (Nat.le_refl _) HR.law.below).sz
              have hzi := hok.sz
              rw [← HSZ.out j (by omega)] at hs1 hzi
              obtain ⟨g, ca', e1⟩ := own_form HR.row (by omega)
              obtain ⟨g', ce', e2⟩ := own_form HR.law.q.1 (by omega)
              cases e1
              cases e2
              obtain ⟨⟨x, y⟩, hc⟩ : ∃ c, takeCk (SA bud sz j) (sz j) = c := ⟨_, rfl⟩
              obtain ⟨er, her⟩ : ∃ e, takeErr (SA bud sz j) (sz j) = e := ⟨_, rfl⟩
              have HAX : Hid (∀ (hh : j < (aC bud sz k).length), (aC bud sz k)[j] = (x, y)) := fun hh => by rw [aC_get, hc]
              have HEX : Hid (∀ (hh : j < (eC bud sz k).length), (eC bud sz k)[j] = er) := fun hh => by rw [eC_get, her]
              obtain ⟨ext, hext⟩ := HX.out (j + 1) hjk
              obtain ⟨f0, f1⟩ := again_take hfg (sz j) hext
              rw [hc] at f0
              have F0 := hide f0
              have F1 := hide f1
              have F2 : Hid (takeErr (back (SA bud sz j) fin) (sz j) = er) := her
              have hsb := HSB.out j hj
              have HT : Hid (takeS (SA bud sz j) (sz j) = SA bud sz (j + 1)) := rfl
              clear hc her f0 f1 hext
              generalize sz j = s at *
              go_wp2_with (go_at_call 15; refine (take_is L HR.law hsb s hzi x y er _ F0.out F2.out F1.out).mono ?_; rintro e w5 ⟨rfl, own5, H5⟩; have H6 := (HR.to H5).step L (World.grownBy_alloc w5 (.cells #[.int .i64 x, .int .i64 y] 35) none); obtain ⟨c0, c1⟩ := chunk_cells H6.row j (by rw [aC_len]; exact hjk); have c2 := err_cells H6.law.q.1 j (by rw [eC_len]; exact hjk); rw [HAX.out] at c0 c1; rw [HEX.out] at c2)
              go_quiet (fail)
              go_wp2
              go_roundw
              case rel => exact ⟨j + 1, own5, by omega, by go_num, by rw [← HT.out]; exact H6.step L ⟨rfl, rfl, rfl, Nat.le_refl _, fun _ _ _ => rfl⟩⟩
              case measure => simp [intOf]; omega
            · obtain rfl : j = k := by omega
              rw [HFIN.out, HBS.out] at HR
              go_wp2_with (go_at_call 23; refine (used_is L HR.law hsm2 m0 HU.out).mono ?_; rintro e w4 ⟨rfl, H4⟩; have hB := H4.below)
              go_ret
              exact ⟨rfl, hB⟩
set_option maxHeartbeats 2000000 in
theorem slabAgain_out (L : SlabLib Sl) (bud : Int) (hbud : I64 bud) {w : World} {a : Option Addr} {len cap : Nat} {os : List Op7} (_h : OpsAt w a len cap os) (hlen : ¬ len ≤ 100) :
    Calls Try.prog 6 #[.int .i64 bud, .slice a len cap] w fun e w' => e = .returned (.bool true) ∧ Below w.heap.size w w' := by
  have hli : (100 : Int) < (len : Int) := by omega
  have hB : Below w.heap.size w w := Below.refl _ _
  clear hlen
  go_enter Try.func6, Try.ntmps6
  go_wp2_with (first
    | (go_at_call 8; refine (awake_any L _).mono ?_; rintro e w1 ⟨rfl, hb⟩; replace hB := Bt hB hb; clear hb)
    | (go_at_call 13; refine (new_is L bud hbud hB).mono ?_; clear hB; rintro e w2 ⟨b, own, rfl, H⟩; have hB := H.below))
  go_ret
  exact ⟨rfl, hB⟩
theorem slabAgain_walk (L : SlabLib Sl) (W : World) (a0 : Int) (w0 : (Lit.int .i64 a0).wf = true) (a1 : Option Addr) (len1 cap1 : Nat) (z1 : List Op7) (w1 : OpsAt W a1 len1 cap1 z1) :
    Calls Try.prog 6 #[.int .i64 a0, .slice a1 len1 cap1] W fun e W' => e = .returned (.bool true) ∧ Below W.heap.size W W' := by
  by_cases h : len1 ≤ 100
  · exact slabAgain_in L a0 (i64_wf w0) w1 h
  · exact slabAgain_out L a0 (i64_wf w0) w1 h
end Go.Proofs.Ytdjagifmcimedaa
