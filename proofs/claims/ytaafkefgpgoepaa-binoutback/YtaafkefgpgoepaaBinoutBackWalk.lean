/- BinoutBack returns true for every request, all results and any bytes behind, and writes nothing that was there. Conditions: an opaque number of 32 bits. -/
import Derived.Test.YtaafkefgpgoepaaBoAw
import Derived.Test.YtaafkefgpgoepaaOutFew
import Derived.Test.YtaafkefgpgoepaaPoLib
namespace Go.Proofs.Ytaafkefgpgoepaa
set_option linter.unusedVariables false
set_option linter.unusedSimpArgs false
open Go.RowKit Go.Shelf

/-- The parts of an answer, by its status. -/
structure BkP (f : Fv) (c : Cv) (x : Rv) (X K V : List UInt8) (C : Int) : Prop where
  xl : X.length ≤ 255
  kl : K.length ≤ 1000
  vl : V.length ≤ 2000
  c0 : 0 ≤ C
  c1 : C < 18446744073709551616
  ways : x.s = 0 ∧ X.length = 4 ∧ V = x.val ∧ C = x.cas ∧ (K = [] ∨ K = c.key.data.toList) ∨ x.s = 7 ∧ V.length = 8 ∧ C = x.cas ∨ x.s = 2 ∧ V = [] ∧ C = x.cas ∨ ¬ x.s = 0 ∧ ¬ x.s = 7 ∧ ¬ x.s = 2 ∧ X = [] ∧ K = [] ∧ C = 0
theorem bkP_of {f : Fv} {c : Cv} {x : Rv} (hk : c.key.size ≤ 1000) (hv : x.val.length ≤ 2000) (ok : x.ok) : BkP f c x (toldX x) (toldK f c x) (toldV x) (toldC x) := by
  refine ⟨toldX_le x, toldK_le f x hk, toldV_le hv, (toldC_bd ok).1, (toldC_bd ok).2, ?_⟩
  by_cases h0 : x.s = 0
  · refine .inl ⟨h0, ?_, ?_, ?_, ?_⟩
    · unfold toldX; rw [if_pos h0, be_len]
    · unfold toldV; rw [if_pos h0]
    · unfold toldC; rw [if_pos (.inl h0)]
    · unfold toldK
      rw [if_pos h0]
      by_cases h : f.code = 12 ∨ f.code = 13
      · right; rw [keyA_yes h hk]
      · left; rw [keyA_no h]
  · by_cases h7 : x.s = 7
    · refine .inr (.inl ⟨h7, ?_, ?_⟩)
      · unfold toldV; rw [if_neg h0, if_pos h7, be_len]
      · unfold toldC; rw [if_pos (.inr (.inl h7))]
    · by_cases h2 : x.s = 2
      · refine .inr (.inr (.inl ⟨h2, ?_, ?_⟩))
        · unfold toldV; rw [if_neg h0, if_neg h7, if_neg (by omega)]
        · unfold toldC; rw [if_pos (.inr (.inr h2))]
      · refine .inr (.inr (.inr ⟨h0, h7, h2, ?_, ?_, ?_⟩))
        · unfold toldX; rw [if_neg h0]
        · unfold toldK; rw [if_neg h0]
        · unfold toldC; rw [if_neg (by omega)]
/-- What is read of an answer with more behind it. -/
theorem bk_reads {f : Fv} {s C : Int} {X K V u : List UInt8} {n : Nat} (h0 : 0 ≤ f.code) (h1 : f.code ≤ 255) (xl : X.length ≤ 255) (kl : K.length ≤ 1000) (vl : V.length ≤ 2000) (c0 : 0 ≤ C) (c1 : C < 18446744073709551616) (o0 : 0 ≤ f.opq) (o1 : f.opq < 4294967296) (hn : (packA f.code f.opq (codeN s) C X K V).length = n) :
    ReadsA (packA f.code f.opq (codeN s) C X K V ++ u) ⟨f.code, codeN s, f.opq, C, X, K, V, (n : Int)⟩ := by
  have cb := codeN_bd s
  have h := pack_reads (c := f.code) (opq := f.opq) (st := codeN s) (cas := C) (x := X) (key := K) (v := V) (more := u) xl (by omega) (by omega) cb.1 (by omega) c0 c1 o0 o1
  rw [packA_len] at hn
  rw [show f.code % 256 = f.code by omega, show 24 + ((X.length + K.length + V.length : Nat) : Int) = (n : Int) by omega] at h
  exact h
theorem hush_quiet {q : Bool} {op s : Int} (h : hushA q op s = true) : q = true := by
  unfold hushA at h
  cases q with
  | true => rfl
  | false => cases h
theorem encA_cons' {r : Qv} {xs : List Rv} (h1 : 0 < r.cmds.length) (h2 : 0 < xs.length) : encA r xs = oneA r.form r.cmds[0] xs[0] := by
  obtain ⟨cs, f⟩ := r
  cases cs with
  | nil => exact absurd h1 (Nat.lt_irrefl 0)
  | cons c cs =>
    cases xs with
    | nil => exact absurd h2 (Nat.lt_irrefl 0)
    | cons x xs => rfl
theorem new_row {w U : World} {B : Nat} {cs : Array Value} {t : TypeId} (h : U = w.alloc (.cells cs t)) (e : B = w.heap.size) : w.grownBy U none ∧ U.heap[B]? = some (.cells cs t (0, 0)) := by
  subst h e
  exact ⟨World.grownBy_alloc _ _ _, World.alloc_heap_new _ _⟩
set_option maxRecDepth 100000 in
theorem act185 (z : Nat → Value) : actOf 185 z = { tmps := #[z 0, z 1, z 2, z 3, z 4, z 5, z 6, z 7, z 8, z 9, z 10, z 11, z 12, z 13, z 14, z 15, z 16, z 17, z 18, z 19, z 20, z 21, z 22, z 23, z 24, z 25, z 26, z 27, z 28, z 29, z 30, z 31, z 32, z 33, z 34, z 35, z 36, z 37, z 38, z 39, z 40, z 41, z 42, z 43, z 44, z 45, z 46, z 47, z 48, z 49, z 50, z 51, z 52, z 53, z 54, z 55, z 56, z 57, z 58, z 59, z 60, z 61, z 62, z 63, z 64, z 65, z 66, z 67, z 68, z 69, z 70, z 71, z 72, z 73, z 74, z 75, z 76, z 77, z 78, z 79, z 80, z 81, z 82, z 83, z 84, z 85, z 86, z 87, z 88, z 89, z 90, z 91, z 92, z 93, z 94, z 95, z 96, z 97, z 98, z 99, z 100, z 101, z 102, z 103, z 104, z 105, z 106, z 107, z 108, z 109, z 110, z 111, z 112, z 113, z 114, z 115, z 116, z 117, z 118, z 119, z 120, z 121, z 122, z 123, z 124, z 125, z 126, z 127, z 128, z 129, z 130, z 131, z 132, z 133, z 134, z 135, z 136, z 137, z 138, z 139, z 140, z 141, z 142, z 143, z 144, z 145, z 146, z 147, z 148, z 149, z 150, z 151, z 152, z 153, z 154, z 155, z 156, z 157, z 158, z 159, z 160, z 161, z 162, z 163, z 164, z 165, z 166, z 167, z 168, z 169, z 170, z 171, z 172, z 173, z 174, z 175, z 176, z 177, z 178, z 179, z 180, z 181, z 182, z 183, z 184], defers := [] } := rfl
section
set_option maxRecDepth 100000 in
set_option maxHeartbeats 16000000 in
theorem binoutBack_walk (W : World) (r : Qv) (ca : Option Addr) (cc : Nat) (ta : Option Addr) (tc : Nat) (ka : Option Addr) (kc : Nat) (hq : QAt W r ca cc ta tc ka kc) (ho : 0 ≤ r.form.opq ∧ r.form.opq < 4294967296) (la : Option Addr) (lc : Nat) (xs : List Rv) (hx : Ru W la xs.length lc xs) (ma : Option Addr) (ml mc : Nat) (mz : List Int) (hm : IsRow .u8 W ma ml mc mz) :
    Calls Try.prog 5 #[.agg (rqC r ca cc ta tc ka kc), .slice la xs.length lc, .slice ma ml mc] W fun e W' => e = .returned (.bool true) ∧ Below W.heap.size W W' := by
  obtain ⟨u, hu⟩ := Bu.of hm
  clear hm
  have B := QBox.new W r ca ta ka cc tc kc
  obtain ⟨V, hV⟩ : ∃ V, V = W.alloc (.cells (rqC r ca cc ta tc ka kc) 28) := ⟨_, rfl⟩
  obtain ⟨q, hqq⟩ : ∃ q, q = W.heap.size := ⟨_, rfl⟩
  rw [← hV, ← hqq] at B
  have HB := hide B
  have HR : Hid (rqC r ca cc ta tc ka kc = #[.slice ca r.cmds.length cc, .int .i64 r.form.dia, .string r.form.verb, .int .i64 r.form.code, .int .u32 r.form.opq, .bool r.form.quiet, .bool r.form.wcas, .string r.form.flags, .slice ta r.form.toks.length tc, .slice ka r.form.keys.length kc, .bool r.form.b64]) := rfl
  rw [HR.out] at hV
  rw [HR.out]
  go_enter Try.func5, Try.ntmps5
  go_upto_region 1 with fail
  rw [← hV, ← hqq]
  clear hV hqq B
  go_upto_region 3 with (first
    | (go_at_call 8; refine (awake_any bo_lib).mono ?_; rintro e w2 ⟨rfl, g2⟩; have B2 := hide (HB.out.on g2); clear g2)
    | (refine wpList_load_row rfl 28 _ rfl q rfl _ _ _ _ B2.out.row Try.underlying28 rfl (req_size _ _ _ _ _ _ _) ?_)
    | (go_at_call 9; refine (few_any (hq.on (below_gr B2.out.gr)) (hx.on (below_gr B2.out.gr))).mono ?_; rintro e w3 ⟨ok, rfl, hok, g3⟩; have B3 := hide (B2.out.on g3); clear g3))
  cases ok with
  | false =>
    go_wp2
    go_ret
    exact ⟨rfl, below_gr B3.out.gr⟩
  | true =>
    have hf := hok rfl
    clear hok B2 HB
    have c0 := cellE B3.out.row 0 (.slice ca r.cmds.length cc) rfl
    have c3 := cellE B3.out.row 3 (.int .i64 r.form.code) rfl
    have c4 := cellE B3.out.row 4 (.int .u32 r.form.opq) rfl
    have c5 := cellE B3.out.row 5 (.bool r.form.quiet) rfl
    by_cases hM : 100 < ml
    · have m0 : (100 : Int) < (ml : Int) := by omega
      clear hM hq hx hf ho hu c3 c4 c5
      go_wp2
      go_ret
      exact ⟨rfl, below_gr B3.out.gr⟩
    have m0 : ¬ (100 : Int) < (ml : Int) := by omega
    by_cases hN : r.cmds.length = 0
    · have n0 : ((r.cmds.length : Int) == 0) = true := by rw [hN]; rfl
      clear hN hM hq hx hf ho hu c3 c4 c5
      go_wp2
      go_ret
      exact ⟨rfl, below_gr B3.out.gr⟩
    have n0 : ((r.cmds.length : Int) == 0) = false := by rw [beq_eq_false_iff_ne]; omega
    by_cases hX : xs.length = 0
    · have x0 : ((xs.length : Int) == 0) = true := by rw [hX]; rfl
      clear hX hN hM hq hx hf ho hu c3 c4 c5
      go_wp2
      go_ret
      exact ⟨rfl, below_gr B3.out.gr⟩
    have x0 : ((xs.length : Int) == 0) = false := by rw [beq_eq_false_iff_ne]; omega
    by_cases hc0 : r.form.code < 0
    · clear hX hN hM hq hx hf ho hu c4 c5
      go_wp2
      go_ret
      exact ⟨rfl, below_gr B3.out.gr⟩
    by_cases hc1 : 255 < r.form.code
    · clear hX hN hM hq hx hf ho hu c4 c5
      go_wp2
      go_ret
      exact ⟨rfl, below_gr B3.out.gr⟩
    have h1 : 0 < r.cmds.length := by omega
    have h2 : 0 < xs.length := by omega
    have HQ3 := hq.on (below_gr B3.out.gr)
    have HX3 := hx.on (below_gr B3.out.gr)
    have HE := hide (bo_lib.enc _ _ _ _ _ _ _ _ _ _ _ HQ3 HX3 hf ho.1 ho.2)
    rw [encA_cons' h1 h2] at HE
    obtain ⟨cb, co, rfl, cva, cvc, rc, _⟩ := HQ3.cmds.get h1
    obtain ⟨lb, lo, rfl, hlb, ya, yc, rx, hbu⟩ := HX3.get h2
    rw [Nat.zero_mul, Nat.add_zero] at rx rc
    have KP := hide (bkP_of (f := r.form) (hf.k _ (List.getElem_mem h1)) (hf.v _ (List.getElem_mem h2)) (hx.ok _ (List.getElem_mem h2)))
    have HT := hide (fun (h : hushA r.form.quiet r.cmds[0].op xs[0].s = false) => oneA_told (f := r.form) (c := r.cmds[0]) (x := xs[0]) h)
    generalize r.cmds[0] = c at *
    generalize xs[0] = x at *
    have HM := hide (hu.on (below_gr B3.out.gr))
    have HC0 : Hid (0 ≤ r.form.code ∧ r.form.code ≤ 255) := ⟨by omega, by omega⟩
    have HO := hide ho
    have HML : Hid (ml ≤ 100) := by show _ ≤ _; omega
    clear hX hq hx hf ho hu HQ3 HX3 hlb hM hN
    cases hh : hushA r.form.quiet c.op x.s with
    | true =>
      have hqt := hush_quiet hh
      rw [hqt] at c5
      have HL : Hid (oneA r.form c x = []) := oneA_hush hh
      clear hqt hh h1 h2 rc rx hbu KP HT HM
      go_wp2_with (first
        | (refine wpList_load_row rfl 28 _ rfl q rfl _ _ _ _ B3.out.row Try.underlying28 rfl (req_size _ _ _ _ _ _ _) ?_)
        | (go_at_call 10; refine Calls.mono HE.out ?_; rintro e w5 ⟨a5, n5, c5_, rfl, l5, b5, g5⟩; rw [HL.out] at b5; obtain rfl : n5 = 0 := b5.n.symm; have B5 := B3.out.on g5; have d5 := keep_cell g5 c5; have HG := hide B5.gr; clear B5 b5 g5 l5 c5 c0 c3 c4))
      go_ret
      exact ⟨by first | rfl | (simp; done), below_gr HG.out⟩
    | false =>
      replace HT := hide (HT.out hh)
      generalize toldX x = X at *
      generalize toldK r.form c x = K at *
      generalize toldV x = V' at *
      generalize toldC x = C at *
      rw [HT.out] at HE
      have RD := hide (fun (n : Nat) (hn : (packA r.form.code r.form.opq (codeN x.s) C X K V').length = n) => bk_reads (f := r.form) (s := x.s) (u := u) HC0.out.1 HC0.out.2 KP.out.xl KP.out.kl KP.out.vl KP.out.c0 KP.out.c1 HO.out.1 HO.out.2 hn)
      have PL := packA_len r.form.code r.form.opq (codeN x.s) C X K V'
      have PB : Hid (0 < (packA r.form.code r.form.opq (codeN x.s) C X K V').length ∧ (packA r.form.code r.form.opq (codeN x.s) C X K V').length ≤ 100000) := by
        have h3 := KP.out.xl
        have h4 := KP.out.kl
        have h5 := KP.out.vl
        show _ ∧ _
        omega
      clear PL hh HT h1 h2
      generalize hl : packA r.form.code r.form.opq (codeN x.s) C X K V' = l at *
      clear hl
      have n1 : ¬ r.cmds.length = 0 := by intro h; rw [h] at n0; cases n0
      have x1 : ¬ xs.length = 0 := by intro h; rw [h] at x0; cases x0
      have n2 : (0 : Int) < (r.cmds.length : Int) := by omega
      have n3 : 0 < r.cmds.length := by omega
      have x2 : (0 : Int) < (xs.length : Int) := by omega
      have C3 := hide c3
      have RX := hide rx
      have RC := hide rc
      have HY := hide hbu
      clear rx rc hbu
      have N1 : Hid (w3 = w3) := rfl
      go_upto_region 9 with (first
        | (refine wpList_load_row rfl 28 _ rfl q rfl _ _ _ _ B3.out.row Try.underlying28 rfl (req_size _ _ _ _ _ _ _) ?_)
        | (go_at_call 10; go_loud (refine Calls.mono HE.out ?_; rintro e w5 ⟨a5, n5, c5_, rfl, l5, b5, g5⟩; have z5 : ((n5 : Int) == 0) = false := (by rw [beq_eq_false_iff_ne]; have h3 := PB.out.1; have h4 := b5.n; omega); replace b5 := hide b5; replace g5 := hide g5; replace l5 := hide l5; clear c0 c4 c5 c3))
        | (have t := N1; clear t; refine wpList_row2 (w0 := w5) (v := .slice none 0 0) (n := 0) (l := []) ⟨World.ownsRow_nil _ _ _ _, rfl, gr_refl _ _⟩ rfl _ _ rfl rfl rfl b5.out (by have := l5.out; omega) ?_; intro v6 w6 R6; clear N1; have N2 : Hid (w5 = w5) := rfl; replace R6 := hide R6)
        | (have t := N2; clear t; refine wpList_row2 (w0 := w5) R6.out rfl _ _ rfl rfl rfl (HM.out.on (below_gr (gr_trans g5.out R6.out.gr))) (by have := l5.out; have := HML.out; omega) ?_; intro v7 w7 R7; clear N2; obtain ⟨a7, c7, rfl, b7⟩ := R7.bu; replace R7 := hide R7; simp only [Nat.zero_add, List.nil_append] at b7 ⊢; replace b7 := hide b7)
        | (go_at_call 14; go_loud (refine Calls.mono (bo_lib.read _ _ _ _ _ _ b7.out (by have := l5.out; have := HML.out; omega) (RD.out n5 b5.out.n)) ?_; rintro e w8 ⟨xa, xc, ka8, kc8, va, vc, rfl, b1, b2, b3, g8⟩; obtain ⟨U1, hU1⟩ : ∃ U, U = w8.alloc (.cells (ptC ⟨r.form.code, codeN x.s, r.form.opq, C, X, K, V', (n5 : Int)⟩ xa xc ka8 kc8 va vc) 38) := ⟨_, rfl⟩; obtain ⟨B1, hB1⟩ : ∃ B, B = w8.heap.size := ⟨_, rfl⟩; have NR := hide (new_row hU1 hB1); have G8 := hide (gr_trans g5.out (gr_trans R7.out.gr (gr_trans g8 NR.out.1))); have BX := hide (b1.on (below_gr NR.out.1)); have BK := hide (b2.on (below_gr NR.out.1)); have BV := hide (b3.on (below_gr NR.out.1)); replace hU1 := hide hU1; replace hB1 := hide hB1; clear b1 b2 b3 g8))
        | (refine wpList_store_row rfl 38 _ _ rfl w8.heap.size (ptC ⟨r.form.code, codeN x.s, r.form.opq, C, X, K, V', (n5 : Int)⟩ xa xc ka8 kc8 va vc) rfl rfl _ _ (World.alloc_heap_new w8 _) (pt_size _ _ _ _ _ _ _) rfl (pt_one _ _ _ _ _ _ _) ?_; rw [setRow_alloc, ← hU1.out, ← hB1.out]; clear hU1 hB1))
      have RQ := hide ((G8.out.block q (Array.getElem?_eq_some_iff.1 B3.out.row).1 (by simp)).trans B3.out.row)
      have rx1 := rngE G8.out RX.out
      have s1 : U1.cell? ⟨lb, lo, none⟩ = some (.int .i64 x.s) := rx1 0 _ rfl
      have d3 := cellE RQ.out 3 (.int .i64 r.form.code) rfl
      have d4 := cellE RQ.out 4 (.int .u32 r.form.opq) rfl
      have HCo := hide (fun U => bo_lib.code x.s U)
      obtain ⟨U2, hU2⟩ : ∃ U, U = U1.alloc (.cells (rsC x ya yc) 46) := ⟨_, rfl⟩
      obtain ⟨B2, hB2⟩ : ∃ B, B = U1.heap.size := ⟨_, rfl⟩
      have NS := hide (new_row hU2 hB2)
      have GU := hide (gr_trans B3.out.gr (gr_trans G8.out NS.out.1))
      have e0 := hide (cellE NS.out.2 0 (.int .i64 x.s) rfl)
      have e3 := hide (cellE NS.out.2 3 (.int .u64 x.cas) rfl)
      have e1 := hide (cellE NS.out.2 1 (.slice ya x.val.length yc) rfl)
      have p0 := hide (keep_cell NS.out.1 (cellE NR.out.2 0 (.slice xa X.length xc) rfl))
      have p1 := hide (keep_cell NS.out.1 (cellE NR.out.2 1 (.slice ka8 K.length kc8) rfl))
      have p2 := hide (keep_cell NS.out.1 (cellE NR.out.2 2 (.slice va V'.length vc) rfl))
      clear PB b5 l5 b7 R6 R7 HM HC0 HO HML z5 RD HE C3
      go_upto_region 12 with (first
        | (go_at_call 12; refine (HCo.out _).mono ?_; rintro e w9 ⟨rfl, hw9⟩; rw [hw9]; clear hw9)
        | (refine wpList_load_mid rfl 46 _ rfl lb lo rfl (rsC x ya yc).toList _ rx1 Try.underlying46 rfl (by rw [res_size x ya yc, Array.length_toList]) ?_)
        | (refine wpList_store_row rfl 46 _ _ rfl U1.heap.size (rsC x ya yc) rfl rfl _ _ (World.alloc_heap_new U1 _) (res_size _ _ _) rfl (res_one _ _ _) ?_; rw [setRow_alloc, ← hU2, ← hB2]; clear hU2 hB2))
      clear rx1 s1 d3 d4 HCo
      have k0 := e0.out
      have k3 := e3.out
      rcases KP.out.ways with ⟨hs, hX4, rfl, rfl, hK⟩ | ⟨hs, hV8, rfl⟩ | ⟨hs, rfl, rfl⟩ | ⟨h0, h7, h2', rfl, rfl, rfl⟩
      · have z0 : (x.s == 0) = true := by rw [hs]; rfl
        obtain ⟨T, hT⟩ : ∃ T, T = strOf (ints x.val) := ⟨_, rfl⟩
        have CV := hide (fun (W : World) (g : U2.grownBy W none) => convB (BV.out.on (below_gr (gr_trans NS.out.1 g))))
        have CY := hide (fun (W : World) (g : U2.grownBy W none) => convB (HY.out.on (below_gr (gr_trans G8.out (gr_trans NS.out.1 g)))))
        simp only [← hT] at CV CY
        have P0 := hide (fun (W : World) (g : U2.grownBy W none) => keep_cell g p0.out)
        have P1 := hide (fun (W : World) (g : U2.grownBy W none) => keep_cell g p1.out)
        have P2 := hide (fun (W : World) (g : U2.grownBy W none) => keep_cell g p2.out)
        have Y1 := hide (fun (W : World) (g : U2.grownBy W none) => keep_cell g e1.out)
        have Y3 := hide (fun (W : World) (g : U2.grownBy W none) => keep_cell g e3.out)
        have Q0 := hide (fun (W : World) (g : U2.grownBy W none) => keep_cell (gr_trans NS.out.1 g) (cellE RQ.out 0 (.slice (some ⟨cb, co, none⟩) r.cmds.length cc) rfl))
        have K1 := hide (fun (W : World) (g : U2.grownBy W none) => (rngE (gr_trans G8.out (gr_trans NS.out.1 g)) RC.out) 1 (.string c.key) rfl)
        have CK := hide (fun (W : World) (g : U2.grownBy W none) => convB (BK.out.on (below_gr (gr_trans NS.out.1 g))))
        simp only [hX4] at P0
        obtain ⟨kn, hkn⟩ : ∃ kn, kn = K.length := ⟨_, rfl⟩
        simp only [← hkn] at P1 CK
        by_cases hk0 : kn = 0
        · subst hk0
          clear hs hX4 hK hkn hT CK KP k3
          go_upto_region 14 with fail
          refine wp_region_inv (N := 185) (Sp := SpL [EqV (.pointer (some ⟨B1, 2, none⟩)), EqV (.slice va x.val.length vc), EqV (.string T), EqV (.pointer (some ⟨B2, 1, none⟩)), EqV (.slice ya x.val.length yc), EqV (.string T), EqV (.bool true), EqV (.bool true), EqV (.int .u64 x.cas), EqV (.pointer (some ⟨B2, 3, none⟩)), EqV (.int .u64 x.cas), EqV (.bool true), EqV (.bool true), EqV (.bool true), EqV (.pointer (some ⟨B1, 0, none⟩)), EqV (.slice xa 4 xc), EqV (.int .i64 4), EqV (.bool true), EqV (.bool true), EqV (.bool true), EqV (.pointer (some ⟨B1, 1, none⟩)), EqV (.slice ka8 0 kc8), EqV (.int .i64 0), EqV (.bool true), EqV (.bool true), EqV undef, EqV undef, EqV undef, EqV undef, EqV undef, EqV undef, EqV undef, EqV undef, EqV undef, EqV (.bool true), EqV (.bool true), EqV (.bool true)]) (by kernel_rfl) (by rfl) (by kernel_rfl) (spL_mono (mono_cons (mono_eq _) (mono_cons (mono_eq _) (mono_cons (mono_eq _) (mono_cons (mono_eq _) (mono_cons (mono_eq _) (mono_cons (mono_eq _) (mono_cons (mono_eq _) (mono_cons (mono_eq _) (mono_cons (mono_eq _) (mono_cons (mono_eq _) (mono_cons (mono_eq _) (mono_cons (mono_eq _) (mono_cons (mono_eq _) (mono_cons (mono_eq _) (mono_cons (mono_eq _) (mono_cons (mono_eq _) (mono_cons (mono_eq _) (mono_cons (mono_eq _) (mono_cons (mono_eq _) (mono_cons (mono_eq _) (mono_cons (mono_eq _) (mono_cons (mono_eq _) (mono_cons (mono_eq _) (mono_cons (mono_eq _) (mono_cons (mono_eq _) (mono_cons (mono_eq _) (mono_cons (mono_eq _) (mono_cons (mono_eq _) (mono_cons (mono_eq _) (mono_cons (mono_eq _) (mono_cons (mono_eq _) (mono_cons (mono_eq _) (mono_cons (mono_eq _) (mono_cons (mono_eq _) (mono_cons (mono_eq _) (mono_cons (mono_eq _) (mono_cons (mono_eq _) (mono_nil))))))))))))))))))))))))))))))))))))))) ?_ ?_
          · refine ⟨?_, ?_, ?_, ?_, ?_, ?_, ?_, ?_, ?_, ?_, ?_, ?_, ?_, ?_, ?_, ?_, ?_, ?_, ?_, ?_, ?_, ?_, ?_, ?_, ?_, ?_, ?_, ?_, ?_, ?_, ?_, ?_, ?_, ?_, ?_, ?_, ?_, trivial⟩
            · intro z u hg hfix dep
              have e14 : z 14 = .pointer (some ⟨B1, 0, none⟩) := hfix 14 (by kernel_rfl)
              refine .inl ⟨rfl, ?_⟩
              refine oper_value 111 rfl (v := .pointer (some ⟨B1, 2, none⟩)) (w' := u) (by rw [act185]; go_simp) ⟨_, rfl, gr_refl _ _, spL_at rfl rfl⟩
            · intro z u hg hfix dep
              have d111 : (EqV (.pointer (some ⟨B1, 2, none⟩))) (z 111) u := dep 0 (by kernel_rfl) _ rfl
              have q111 : z 111 = (.pointer (some ⟨B1, 2, none⟩)) := d111
              refine .inl ⟨rfl, ?_⟩
              have c_ := P2.out u hg
              refine oper_value 112 rfl (v := .slice va x.val.length vc) (w' := u) (by rw [act185]; go_simp) ⟨_, rfl, gr_refl _ _, spL_at rfl rfl⟩
            · intro z u hg hfix dep
              have d112 : (EqV (.slice va x.val.length vc)) (z 112) u := dep 1 (by kernel_rfl) _ rfl
              have q112 : z 112 = (.slice va x.val.length vc) := d112
              refine .inl ⟨rfl, ?_⟩
              have c_ := CV.out u hg
              refine oper_value 113 rfl (v := .string T) (w' := u) (by rw [act185]; go_simp) ⟨_, rfl, gr_refl _ _, spL_at rfl rfl⟩
            · intro z u hg hfix dep
              have e16 : z 16 = .pointer (some ⟨B2, 0, none⟩) := hfix 16 (by kernel_rfl)
              refine .inl ⟨rfl, ?_⟩
              refine oper_value 114 rfl (v := .pointer (some ⟨B2, 1, none⟩)) (w' := u) (by rw [act185]; go_simp) ⟨_, rfl, gr_refl _ _, spL_at rfl rfl⟩
            · intro z u hg hfix dep
              have d114 : (EqV (.pointer (some ⟨B2, 1, none⟩))) (z 114) u := dep 3 (by kernel_rfl) _ rfl
              have q114 : z 114 = (.pointer (some ⟨B2, 1, none⟩)) := d114
              refine .inl ⟨rfl, ?_⟩
              have c_ := Y1.out u hg
              refine oper_value 115 rfl (v := .slice ya x.val.length yc) (w' := u) (by rw [act185]; go_simp) ⟨_, rfl, gr_refl _ _, spL_at rfl rfl⟩
            · intro z u hg hfix dep
              have d115 : (EqV (.slice ya x.val.length yc)) (z 115) u := dep 4 (by kernel_rfl) _ rfl
              have q115 : z 115 = (.slice ya x.val.length yc) := d115
              refine .inl ⟨rfl, ?_⟩
              have c_ := CY.out u hg
              refine oper_value 116 rfl (v := .string T) (w' := u) (by rw [act185]; go_simp) ⟨_, rfl, gr_refl _ _, spL_at rfl rfl⟩
            · intro z u hg hfix dep
              have d113 : (EqV (.string T)) (z 113) u := dep 2 (by kernel_rfl) _ rfl
              have q113 : z 113 = (.string T) := d113
              have d116 : (EqV (.string T)) (z 116) u := dep 5 (by kernel_rfl) _ rfl
              have q116 : z 116 = (.string T) := d116
              refine .inl ⟨rfl, ?_⟩
              refine oper_value 117 rfl (v := .bool true) (w' := u) (by rw [act185]; go_simp) ⟨_, rfl, gr_refl _ _, spL_at rfl rfl⟩
            · intro z u hg hfix dep
              have d117 : (EqV (.bool true)) (z 117) u := dep 6 (by kernel_rfl) _ rfl
              have q117 : z 117 = (.bool true) := d117
              refine .inl ⟨rfl, ?_⟩
              refine oper_value 118 rfl (v := .bool true) (w' := u) (by rw [act185]; go_simp) ⟨_, rfl, gr_refl _ _, spL_at rfl rfl⟩
            · intro z u hg hfix dep
              have e13 : z 13 = .int .u64 x.cas := hfix 13 (by kernel_rfl)
              have d118 : (EqV (.bool true)) (z 118) u := dep 7 (by kernel_rfl) _ rfl
              have q118 : z 118 = (.bool true) := d118
              refine .inl ⟨wanted_at (N := 185) (b := true) rfl rfl (by decide) q118, ?_⟩
              refine oper_value 119 rfl (v := .int .u64 x.cas) (w' := u) (by rw [act185]; go_simp) ⟨_, rfl, gr_refl _ _, spL_at rfl rfl⟩
            · intro z u hg hfix dep
              have e16 : z 16 = .pointer (some ⟨B2, 0, none⟩) := hfix 16 (by kernel_rfl)
              have d118 : (EqV (.bool true)) (z 118) u := dep 7 (by kernel_rfl) _ rfl
              have q118 : z 118 = (.bool true) := d118
              refine .inl ⟨wanted_at (N := 185) (b := true) rfl rfl (by decide) q118, ?_⟩
              refine oper_value 120 rfl (v := .pointer (some ⟨B2, 3, none⟩)) (w' := u) (by rw [act185]; go_simp) ⟨_, rfl, gr_refl _ _, spL_at rfl rfl⟩
            · intro z u hg hfix dep
              have d120 : (EqV (.pointer (some ⟨B2, 3, none⟩))) (z 120) u := dep 9 (by kernel_rfl) _ rfl
              have q120 : z 120 = (.pointer (some ⟨B2, 3, none⟩)) := d120
              have d118 : (EqV (.bool true)) (z 118) u := dep 7 (by kernel_rfl) _ rfl
              have q118 : z 118 = (.bool true) := d118
              refine .inl ⟨wanted_at (N := 185) (b := true) rfl rfl (by decide) q118, ?_⟩
              have c_ := Y3.out u hg
              refine oper_value 121 rfl (v := .int .u64 x.cas) (w' := u) (by rw [act185]; go_simp) ⟨_, rfl, gr_refl _ _, spL_at rfl rfl⟩
            · intro z u hg hfix dep
              have d119 : (EqV (.int .u64 x.cas)) (z 119) u := dep 8 (by kernel_rfl) _ rfl
              have q119 : z 119 = (.int .u64 x.cas) := d119
              have d121 : (EqV (.int .u64 x.cas)) (z 121) u := dep 10 (by kernel_rfl) _ rfl
              have q121 : z 121 = (.int .u64 x.cas) := d121
              have d118 : (EqV (.bool true)) (z 118) u := dep 7 (by kernel_rfl) _ rfl
              have q118 : z 118 = (.bool true) := d118
              refine .inl ⟨wanted_at (N := 185) (b := true) rfl rfl (by decide) q118, ?_⟩
              refine oper_value 122 rfl (v := .bool true) (w' := u) (by rw [act185]; go_simp) ⟨_, rfl, gr_refl _ _, spL_at rfl rfl⟩
            · intro z u hg hfix dep
              have d118 : (EqV (.bool true)) (z 118) u := dep 7 (by kernel_rfl) _ rfl
              have q118 : z 118 = (.bool true) := d118
              have d122 : (EqV (.bool true)) (z 122) u := dep 11 (by kernel_rfl) _ rfl
              have q122 : z 122 = (.bool true) := d122
              refine .inl ⟨rfl, ?_⟩
              refine oper_value 123 rfl (v := .bool true) (w' := u) (by rw [act185]; go_simp) ⟨_, rfl, gr_refl _ _, spL_at rfl rfl⟩
            · intro z u hg hfix dep
              have d123 : (EqV (.bool true)) (z 123) u := dep 12 (by kernel_rfl) _ rfl
              have q123 : z 123 = (.bool true) := d123
              refine .inl ⟨rfl, ?_⟩
              refine oper_value 124 rfl (v := .bool true) (w' := u) (by rw [act185]; go_simp) ⟨_, rfl, gr_refl _ _, spL_at rfl rfl⟩
            · intro z u hg hfix dep
              have e14 : z 14 = .pointer (some ⟨B1, 0, none⟩) := hfix 14 (by kernel_rfl)
              have d124 : (EqV (.bool true)) (z 124) u := dep 13 (by kernel_rfl) _ rfl
              have q124 : z 124 = (.bool true) := d124
              refine .inl ⟨wanted_at (N := 185) (b := true) rfl rfl (by decide) q124, ?_⟩
              refine oper_value 125 rfl (v := .pointer (some ⟨B1, 0, none⟩)) (w' := u) (by rw [act185]; go_simp) ⟨_, rfl, gr_refl _ _, spL_at rfl rfl⟩
            · intro z u hg hfix dep
              have d125 : (EqV (.pointer (some ⟨B1, 0, none⟩))) (z 125) u := dep 14 (by kernel_rfl) _ rfl
              have q125 : z 125 = (.pointer (some ⟨B1, 0, none⟩)) := d125
              have d124 : (EqV (.bool true)) (z 124) u := dep 13 (by kernel_rfl) _ rfl
              have q124 : z 124 = (.bool true) := d124
              refine .inl ⟨wanted_at (N := 185) (b := true) rfl rfl (by decide) q124, ?_⟩
              have c_ := P0.out u hg
              refine oper_value 126 rfl (v := .slice xa 4 xc) (w' := u) (by rw [act185]; go_simp) ⟨_, rfl, gr_refl _ _, spL_at rfl rfl⟩
            · intro z u hg hfix dep
              have d126 : (EqV (.slice xa 4 xc)) (z 126) u := dep 15 (by kernel_rfl) _ rfl
              have q126 : z 126 = (.slice xa 4 xc) := d126
              have d124 : (EqV (.bool true)) (z 124) u := dep 13 (by kernel_rfl) _ rfl
              have q124 : z 124 = (.bool true) := d124
              refine .inl ⟨wanted_at (N := 185) (b := true) rfl rfl (by decide) q124, ?_⟩
              refine oper_value 127 rfl (v := .int .i64 4) (w' := u) (by rw [act185]; go_simp) ⟨_, rfl, gr_refl _ _, spL_at rfl rfl⟩
            · intro z u hg hfix dep
              have d127 : (EqV (.int .i64 4)) (z 127) u := dep 16 (by kernel_rfl) _ rfl
              have q127 : z 127 = (.int .i64 4) := d127
              have d124 : (EqV (.bool true)) (z 124) u := dep 13 (by kernel_rfl) _ rfl
              have q124 : z 124 = (.bool true) := d124
              refine .inl ⟨wanted_at (N := 185) (b := true) rfl rfl (by decide) q124, ?_⟩
              refine oper_value 128 rfl (v := .bool true) (w' := u) (by rw [act185]; go_simp) ⟨_, rfl, gr_refl _ _, spL_at rfl rfl⟩
            · intro z u hg hfix dep
              have d124 : (EqV (.bool true)) (z 124) u := dep 13 (by kernel_rfl) _ rfl
              have q124 : z 124 = (.bool true) := d124
              have d128 : (EqV (.bool true)) (z 128) u := dep 17 (by kernel_rfl) _ rfl
              have q128 : z 128 = (.bool true) := d128
              refine .inl ⟨rfl, ?_⟩
              refine oper_value 129 rfl (v := .bool true) (w' := u) (by rw [act185]; go_simp) ⟨_, rfl, gr_refl _ _, spL_at rfl rfl⟩
            · intro z u hg hfix dep
              have d129 : (EqV (.bool true)) (z 129) u := dep 18 (by kernel_rfl) _ rfl
              have q129 : z 129 = (.bool true) := d129
              refine .inl ⟨rfl, ?_⟩
              refine oper_value 130 rfl (v := .bool true) (w' := u) (by rw [act185]; go_simp) ⟨_, rfl, gr_refl _ _, spL_at rfl rfl⟩
            · intro z u hg hfix dep
              have e14 : z 14 = .pointer (some ⟨B1, 0, none⟩) := hfix 14 (by kernel_rfl)
              have d130 : (EqV (.bool true)) (z 130) u := dep 19 (by kernel_rfl) _ rfl
              have q130 : z 130 = (.bool true) := d130
              refine .inl ⟨wanted_at (N := 185) (b := true) rfl rfl (by decide) q130, ?_⟩
              refine oper_value 131 rfl (v := .pointer (some ⟨B1, 1, none⟩)) (w' := u) (by rw [act185]; go_simp) ⟨_, rfl, gr_refl _ _, spL_at rfl rfl⟩
            · intro z u hg hfix dep
              have d131 : (EqV (.pointer (some ⟨B1, 1, none⟩))) (z 131) u := dep 20 (by kernel_rfl) _ rfl
              have q131 : z 131 = (.pointer (some ⟨B1, 1, none⟩)) := d131
              have d130 : (EqV (.bool true)) (z 130) u := dep 19 (by kernel_rfl) _ rfl
              have q130 : z 130 = (.bool true) := d130
              refine .inl ⟨wanted_at (N := 185) (b := true) rfl rfl (by decide) q130, ?_⟩
              have c_ := P1.out u hg
              refine oper_value 132 rfl (v := .slice ka8 0 kc8) (w' := u) (by rw [act185]; go_simp) ⟨_, rfl, gr_refl _ _, spL_at rfl rfl⟩
            · intro z u hg hfix dep
              have d132 : (EqV (.slice ka8 0 kc8)) (z 132) u := dep 21 (by kernel_rfl) _ rfl
              have q132 : z 132 = (.slice ka8 0 kc8) := d132
              have d130 : (EqV (.bool true)) (z 130) u := dep 19 (by kernel_rfl) _ rfl
              have q130 : z 130 = (.bool true) := d130
              refine .inl ⟨wanted_at (N := 185) (b := true) rfl rfl (by decide) q130, ?_⟩
              refine oper_value 133 rfl (v := .int .i64 0) (w' := u) (by rw [act185]; go_simp) ⟨_, rfl, gr_refl _ _, spL_at rfl rfl⟩
            · intro z u hg hfix dep
              have d133 : (EqV (.int .i64 0)) (z 133) u := dep 22 (by kernel_rfl) _ rfl
              have q133 : z 133 = (.int .i64 0) := d133
              have d130 : (EqV (.bool true)) (z 130) u := dep 19 (by kernel_rfl) _ rfl
              have q130 : z 130 = (.bool true) := d130
              refine .inl ⟨wanted_at (N := 185) (b := true) rfl rfl (by decide) q130, ?_⟩
              refine oper_value 134 rfl (v := .bool true) (w' := u) (by rw [act185]; go_simp) ⟨_, rfl, gr_refl _ _, spL_at rfl rfl⟩
            · intro z u hg hfix dep
              have d134 : (EqV (.bool true)) (z 134) u := dep 23 (by kernel_rfl) _ rfl
              have q134 : z 134 = (.bool true) := d134
              have d130 : (EqV (.bool true)) (z 130) u := dep 19 (by kernel_rfl) _ rfl
              have q130 : z 130 = (.bool true) := d130
              refine .inl ⟨wanted_at (N := 185) (b := true) rfl rfl (by decide) q130, ?_⟩
              refine oper_value 135 rfl (v := .bool true) (w' := u) (by rw [act185]; go_simp) ⟨_, rfl, gr_refl _ _, spL_at rfl rfl⟩
            · intro z u hg hfix dep
              have d135 : (EqV (.bool true)) (z 135) u := dep 24 (by kernel_rfl) _ rfl
              have q135 : z 135 = (.bool true) := d135
              refine .inr ⟨wanted_at (N := 185) (b := false) rfl rfl (by decide) q135, ?_⟩
              exact spL_at rfl rfl
            · intro z u hg hfix dep
              have d135 : (EqV (.bool true)) (z 135) u := dep 24 (by kernel_rfl) _ rfl
              have q135 : z 135 = (.bool true) := d135
              refine .inr ⟨wanted_at (N := 185) (b := false) rfl rfl (by decide) q135, ?_⟩
              exact spL_at rfl rfl
            · intro z u hg hfix dep
              have d135 : (EqV (.bool true)) (z 135) u := dep 24 (by kernel_rfl) _ rfl
              have q135 : z 135 = (.bool true) := d135
              refine .inr ⟨wanted_at (N := 185) (b := false) rfl rfl (by decide) q135, ?_⟩
              exact spL_at rfl rfl
            · intro z u hg hfix dep
              have d135 : (EqV (.bool true)) (z 135) u := dep 24 (by kernel_rfl) _ rfl
              have q135 : z 135 = (.bool true) := d135
              refine .inr ⟨wanted_at (N := 185) (b := false) rfl rfl (by decide) q135, ?_⟩
              exact spL_at rfl rfl
            · intro z u hg hfix dep
              have d135 : (EqV (.bool true)) (z 135) u := dep 24 (by kernel_rfl) _ rfl
              have q135 : z 135 = (.bool true) := d135
              refine .inr ⟨wanted_at (N := 185) (b := false) rfl rfl (by decide) q135, ?_⟩
              exact spL_at rfl rfl
            · intro z u hg hfix dep
              have d135 : (EqV (.bool true)) (z 135) u := dep 24 (by kernel_rfl) _ rfl
              have q135 : z 135 = (.bool true) := d135
              refine .inr ⟨wanted_at (N := 185) (b := false) rfl rfl (by decide) q135, ?_⟩
              exact spL_at rfl rfl
            · intro z u hg hfix dep
              have d135 : (EqV (.bool true)) (z 135) u := dep 24 (by kernel_rfl) _ rfl
              have q135 : z 135 = (.bool true) := d135
              refine .inr ⟨wanted_at (N := 185) (b := false) rfl rfl (by decide) q135, ?_⟩
              exact spL_at rfl rfl
            · intro z u hg hfix dep
              have d135 : (EqV (.bool true)) (z 135) u := dep 24 (by kernel_rfl) _ rfl
              have q135 : z 135 = (.bool true) := d135
              refine .inr ⟨wanted_at (N := 185) (b := false) rfl rfl (by decide) q135, ?_⟩
              exact spL_at rfl rfl
            · intro z u hg hfix dep
              have d135 : (EqV (.bool true)) (z 135) u := dep 24 (by kernel_rfl) _ rfl
              have q135 : z 135 = (.bool true) := d135
              refine .inr ⟨wanted_at (N := 185) (b := false) rfl rfl (by decide) q135, ?_⟩
              exact spL_at rfl rfl
            · intro z u hg hfix dep
              have d135 : (EqV (.bool true)) (z 135) u := dep 24 (by kernel_rfl) _ rfl
              have q135 : z 135 = (.bool true) := d135
              have d144 : (EqV undef) (z 144) u := dep 33 (by kernel_rfl) _ rfl
              have q144 : z 144 = undef := d144
              have d130 : (EqV (.bool true)) (z 130) u := dep 19 (by kernel_rfl) _ rfl
              have q130 : z 130 = (.bool true) := d130
              refine .inl ⟨wanted_at (N := 185) (b := true) rfl rfl (by decide) q130, ?_⟩
              refine oper_value 145 rfl (v := .bool true) (w' := u) (by rw [act185]; go_simp) ⟨_, rfl, gr_refl _ _, spL_at rfl rfl⟩
            · intro z u hg hfix dep
              have d130 : (EqV (.bool true)) (z 130) u := dep 19 (by kernel_rfl) _ rfl
              have q130 : z 130 = (.bool true) := d130
              have d145 : (EqV (.bool true)) (z 145) u := dep 34 (by kernel_rfl) _ rfl
              have q145 : z 145 = (.bool true) := d145
              refine .inl ⟨rfl, ?_⟩
              refine oper_value 146 rfl (v := .bool true) (w' := u) (by rw [act185]; go_simp) ⟨_, rfl, gr_refl _ _, spL_at rfl rfl⟩
            · intro z u hg hfix dep
              have d146 : (EqV (.bool true)) (z 146) u := dep 35 (by kernel_rfl) _ rfl
              have q146 : z 146 = (.bool true) := d146
              refine .inl ⟨rfl, ?_⟩
              refine oper_value 6 rfl (v := .bool true) (w' := u) (by rw [act185]; go_simp) ⟨_, rfl, gr_refl _ _, spL_at rfl rfl⟩
          · intro z u hg hfix h
            have k6 : z 6 = .bool true := h 36 (by decide) _ rfl
            rw [act185, k6]
            go_wp2
            go_ret
            exact ⟨by first | rfl | (simp; done), below_gr (gr_trans GU.out hg)⟩
        · have kz : ((kn : Int) == 0) = false := by rw [beq_eq_false_iff_ne]; omega
          have hKK : K = c.key.data.toList := by
            rcases hK with h | h
            · rw [h] at hkn; exact absurd hkn hk0
            · exact h
          have hks : strOf (ints K) = c.key := by rw [hKK, strOf_ints]
          simp only [hks] at CK
          clear hs hX4 hK hkn hk0 hT hKK hks KP k3
          go_upto_region 14 with fail
          refine wp_region_inv (N := 185) (Sp := SpL [EqV (.pointer (some ⟨B1, 2, none⟩)), EqV (.slice va x.val.length vc), EqV (.string T), EqV (.pointer (some ⟨B2, 1, none⟩)), EqV (.slice ya x.val.length yc), EqV (.string T), EqV (.bool true), EqV (.bool true), EqV (.int .u64 x.cas), EqV (.pointer (some ⟨B2, 3, none⟩)), EqV (.int .u64 x.cas), EqV (.bool true), EqV (.bool true), EqV (.bool true), EqV (.pointer (some ⟨B1, 0, none⟩)), EqV (.slice xa 4 xc), EqV (.int .i64 4), EqV (.bool true), EqV (.bool true), EqV (.bool true), EqV (.pointer (some ⟨B1, 1, none⟩)), EqV (.slice ka8 kn kc8), EqV (.int .i64 (kn : Int)), EqV (.bool false), EqV (.bool false), EqV (.pointer (some ⟨B1, 1, none⟩)), EqV (.slice ka8 kn kc8), EqV (.string c.key), EqV (.pointer (some ⟨q, 0, none⟩)), EqV (.slice (some ⟨cb, co, none⟩) r.cmds.length cc), EqV (.pointer (some ⟨cb, co, none⟩)), EqV (.pointer (some ⟨cb, co + 1, none⟩)), EqV (.string c.key), EqV (.bool true), EqV (.bool true), EqV (.bool true), EqV (.bool true)]) (by kernel_rfl) (by rfl) (by kernel_rfl) (spL_mono (mono_cons (mono_eq _) (mono_cons (mono_eq _) (mono_cons (mono_eq _) (mono_cons (mono_eq _) (mono_cons (mono_eq _) (mono_cons (mono_eq _) (mono_cons (mono_eq _) (mono_cons (mono_eq _) (mono_cons (mono_eq _) (mono_cons (mono_eq _) (mono_cons (mono_eq _) (mono_cons (mono_eq _) (mono_cons (mono_eq _) (mono_cons (mono_eq _) (mono_cons (mono_eq _) (mono_cons (mono_eq _) (mono_cons (mono_eq _) (mono_cons (mono_eq _) (mono_cons (mono_eq _) (mono_cons (mono_eq _) (mono_cons (mono_eq _) (mono_cons (mono_eq _) (mono_cons (mono_eq _) (mono_cons (mono_eq _) (mono_cons (mono_eq _) (mono_cons (mono_eq _) (mono_cons (mono_eq _) (mono_cons (mono_eq _) (mono_cons (mono_eq _) (mono_cons (mono_eq _) (mono_cons (mono_eq _) (mono_cons (mono_eq _) (mono_cons (mono_eq _) (mono_cons (mono_eq _) (mono_cons (mono_eq _) (mono_cons (mono_eq _) (mono_cons (mono_eq _) (mono_nil))))))))))))))))))))))))))))))))))))))) ?_ ?_
          · refine ⟨?_, ?_, ?_, ?_, ?_, ?_, ?_, ?_, ?_, ?_, ?_, ?_, ?_, ?_, ?_, ?_, ?_, ?_, ?_, ?_, ?_, ?_, ?_, ?_, ?_, ?_, ?_, ?_, ?_, ?_, ?_, ?_, ?_, ?_, ?_, ?_, ?_, trivial⟩
            · intro z u hg hfix dep
              have e14 : z 14 = .pointer (some ⟨B1, 0, none⟩) := hfix 14 (by kernel_rfl)
              refine .inl ⟨rfl, ?_⟩
              refine oper_value 111 rfl (v := .pointer (some ⟨B1, 2, none⟩)) (w' := u) (by rw [act185]; go_simp) ⟨_, rfl, gr_refl _ _, spL_at rfl rfl⟩
            · intro z u hg hfix dep
              have d111 : (EqV (.pointer (some ⟨B1, 2, none⟩))) (z 111) u := dep 0 (by kernel_rfl) _ rfl
              have q111 : z 111 = (.pointer (some ⟨B1, 2, none⟩)) := d111
              refine .inl ⟨rfl, ?_⟩
              have c_ := P2.out u hg
              refine oper_value 112 rfl (v := .slice va x.val.length vc) (w' := u) (by rw [act185]; go_simp) ⟨_, rfl, gr_refl _ _, spL_at rfl rfl⟩
            · intro z u hg hfix dep
              have d112 : (EqV (.slice va x.val.length vc)) (z 112) u := dep 1 (by kernel_rfl) _ rfl
              have q112 : z 112 = (.slice va x.val.length vc) := d112
              refine .inl ⟨rfl, ?_⟩
              have c_ := CV.out u hg
              refine oper_value 113 rfl (v := .string T) (w' := u) (by rw [act185]; go_simp) ⟨_, rfl, gr_refl _ _, spL_at rfl rfl⟩
            · intro z u hg hfix dep
              have e16 : z 16 = .pointer (some ⟨B2, 0, none⟩) := hfix 16 (by kernel_rfl)
              refine .inl ⟨rfl, ?_⟩
              refine oper_value 114 rfl (v := .pointer (some ⟨B2, 1, none⟩)) (w' := u) (by rw [act185]; go_simp) ⟨_, rfl, gr_refl _ _, spL_at rfl rfl⟩
            · intro z u hg hfix dep
              have d114 : (EqV (.pointer (some ⟨B2, 1, none⟩))) (z 114) u := dep 3 (by kernel_rfl) _ rfl
              have q114 : z 114 = (.pointer (some ⟨B2, 1, none⟩)) := d114
              refine .inl ⟨rfl, ?_⟩
              have c_ := Y1.out u hg
              refine oper_value 115 rfl (v := .slice ya x.val.length yc) (w' := u) (by rw [act185]; go_simp) ⟨_, rfl, gr_refl _ _, spL_at rfl rfl⟩
            · intro z u hg hfix dep
              have d115 : (EqV (.slice ya x.val.length yc)) (z 115) u := dep 4 (by kernel_rfl) _ rfl
              have q115 : z 115 = (.slice ya x.val.length yc) := d115
              refine .inl ⟨rfl, ?_⟩
              have c_ := CY.out u hg
              refine oper_value 116 rfl (v := .string T) (w' := u) (by rw [act185]; go_simp) ⟨_, rfl, gr_refl _ _, spL_at rfl rfl⟩
            · intro z u hg hfix dep
              have d113 : (EqV (.string T)) (z 113) u := dep 2 (by kernel_rfl) _ rfl
              have q113 : z 113 = (.string T) := d113
              have d116 : (EqV (.string T)) (z 116) u := dep 5 (by kernel_rfl) _ rfl
              have q116 : z 116 = (.string T) := d116
              refine .inl ⟨rfl, ?_⟩
              refine oper_value 117 rfl (v := .bool true) (w' := u) (by rw [act185]; go_simp) ⟨_, rfl, gr_refl _ _, spL_at rfl rfl⟩
            · intro z u hg hfix dep
              have d117 : (EqV (.bool true)) (z 117) u := dep 6 (by kernel_rfl) _ rfl
              have q117 : z 117 = (.bool true) := d117
              refine .inl ⟨rfl, ?_⟩
              refine oper_value 118 rfl (v := .bool true) (w' := u) (by rw [act185]; go_simp) ⟨_, rfl, gr_refl _ _, spL_at rfl rfl⟩
            · intro z u hg hfix dep
              have e13 : z 13 = .int .u64 x.cas := hfix 13 (by kernel_rfl)
              have d118 : (EqV (.bool true)) (z 118) u := dep 7 (by kernel_rfl) _ rfl
              have q118 : z 118 = (.bool true) := d118
              refine .inl ⟨wanted_at (N := 185) (b := true) rfl rfl (by decide) q118, ?_⟩
              refine oper_value 119 rfl (v := .int .u64 x.cas) (w' := u) (by rw [act185]; go_simp) ⟨_, rfl, gr_refl _ _, spL_at rfl rfl⟩
            · intro z u hg hfix dep
              have e16 : z 16 = .pointer (some ⟨B2, 0, none⟩) := hfix 16 (by kernel_rfl)
              have d118 : (EqV (.bool true)) (z 118) u := dep 7 (by kernel_rfl) _ rfl
              have q118 : z 118 = (.bool true) := d118
              refine .inl ⟨wanted_at (N := 185) (b := true) rfl rfl (by decide) q118, ?_⟩
              refine oper_value 120 rfl (v := .pointer (some ⟨B2, 3, none⟩)) (w' := u) (by rw [act185]; go_simp) ⟨_, rfl, gr_refl _ _, spL_at rfl rfl⟩
            · intro z u hg hfix dep
              have d120 : (EqV (.pointer (some ⟨B2, 3, none⟩))) (z 120) u := dep 9 (by kernel_rfl) _ rfl
              have q120 : z 120 = (.pointer (some ⟨B2, 3, none⟩)) := d120
              have d118 : (EqV (.bool true)) (z 118) u := dep 7 (by kernel_rfl) _ rfl
              have q118 : z 118 = (.bool true) := d118
              refine .inl ⟨wanted_at (N := 185) (b := true) rfl rfl (by decide) q118, ?_⟩
              have c_ := Y3.out u hg
              refine oper_value 121 rfl (v := .int .u64 x.cas) (w' := u) (by rw [act185]; go_simp) ⟨_, rfl, gr_refl _ _, spL_at rfl rfl⟩
            · intro z u hg hfix dep
              have d119 : (EqV (.int .u64 x.cas)) (z 119) u := dep 8 (by kernel_rfl) _ rfl
              have q119 : z 119 = (.int .u64 x.cas) := d119
              have d121 : (EqV (.int .u64 x.cas)) (z 121) u := dep 10 (by kernel_rfl) _ rfl
              have q121 : z 121 = (.int .u64 x.cas) := d121
              have d118 : (EqV (.bool true)) (z 118) u := dep 7 (by kernel_rfl) _ rfl
              have q118 : z 118 = (.bool true) := d118
              refine .inl ⟨wanted_at (N := 185) (b := true) rfl rfl (by decide) q118, ?_⟩
              refine oper_value 122 rfl (v := .bool true) (w' := u) (by rw [act185]; go_simp) ⟨_, rfl, gr_refl _ _, spL_at rfl rfl⟩
            · intro z u hg hfix dep
              have d118 : (EqV (.bool true)) (z 118) u := dep 7 (by kernel_rfl) _ rfl
              have q118 : z 118 = (.bool true) := d118
              have d122 : (EqV (.bool true)) (z 122) u := dep 11 (by kernel_rfl) _ rfl
              have q122 : z 122 = (.bool true) := d122
              refine .inl ⟨rfl, ?_⟩
              refine oper_value 123 rfl (v := .bool true) (w' := u) (by rw [act185]; go_simp) ⟨_, rfl, gr_refl _ _, spL_at rfl rfl⟩
            · intro z u hg hfix dep
              have d123 : (EqV (.bool true)) (z 123) u := dep 12 (by kernel_rfl) _ rfl
              have q123 : z 123 = (.bool true) := d123
              refine .inl ⟨rfl, ?_⟩
              refine oper_value 124 rfl (v := .bool true) (w' := u) (by rw [act185]; go_simp) ⟨_, rfl, gr_refl _ _, spL_at rfl rfl⟩
            · intro z u hg hfix dep
              have e14 : z 14 = .pointer (some ⟨B1, 0, none⟩) := hfix 14 (by kernel_rfl)
              have d124 : (EqV (.bool true)) (z 124) u := dep 13 (by kernel_rfl) _ rfl
              have q124 : z 124 = (.bool true) := d124
              refine .inl ⟨wanted_at (N := 185) (b := true) rfl rfl (by decide) q124, ?_⟩
              refine oper_value 125 rfl (v := .pointer (some ⟨B1, 0, none⟩)) (w' := u) (by rw [act185]; go_simp) ⟨_, rfl, gr_refl _ _, spL_at rfl rfl⟩
            · intro z u hg hfix dep
              have d125 : (EqV (.pointer (some ⟨B1, 0, none⟩))) (z 125) u := dep 14 (by kernel_rfl) _ rfl
              have q125 : z 125 = (.pointer (some ⟨B1, 0, none⟩)) := d125
              have d124 : (EqV (.bool true)) (z 124) u := dep 13 (by kernel_rfl) _ rfl
              have q124 : z 124 = (.bool true) := d124
              refine .inl ⟨wanted_at (N := 185) (b := true) rfl rfl (by decide) q124, ?_⟩
              have c_ := P0.out u hg
              refine oper_value 126 rfl (v := .slice xa 4 xc) (w' := u) (by rw [act185]; go_simp) ⟨_, rfl, gr_refl _ _, spL_at rfl rfl⟩
            · intro z u hg hfix dep
              have d126 : (EqV (.slice xa 4 xc)) (z 126) u := dep 15 (by kernel_rfl) _ rfl
              have q126 : z 126 = (.slice xa 4 xc) := d126
              have d124 : (EqV (.bool true)) (z 124) u := dep 13 (by kernel_rfl) _ rfl
              have q124 : z 124 = (.bool true) := d124
              refine .inl ⟨wanted_at (N := 185) (b := true) rfl rfl (by decide) q124, ?_⟩
              refine oper_value 127 rfl (v := .int .i64 4) (w' := u) (by rw [act185]; go_simp) ⟨_, rfl, gr_refl _ _, spL_at rfl rfl⟩
            · intro z u hg hfix dep
              have d127 : (EqV (.int .i64 4)) (z 127) u := dep 16 (by kernel_rfl) _ rfl
              have q127 : z 127 = (.int .i64 4) := d127
              have d124 : (EqV (.bool true)) (z 124) u := dep 13 (by kernel_rfl) _ rfl
              have q124 : z 124 = (.bool true) := d124
              refine .inl ⟨wanted_at (N := 185) (b := true) rfl rfl (by decide) q124, ?_⟩
              refine oper_value 128 rfl (v := .bool true) (w' := u) (by rw [act185]; go_simp) ⟨_, rfl, gr_refl _ _, spL_at rfl rfl⟩
            · intro z u hg hfix dep
              have d124 : (EqV (.bool true)) (z 124) u := dep 13 (by kernel_rfl) _ rfl
              have q124 : z 124 = (.bool true) := d124
              have d128 : (EqV (.bool true)) (z 128) u := dep 17 (by kernel_rfl) _ rfl
              have q128 : z 128 = (.bool true) := d128
              refine .inl ⟨rfl, ?_⟩
              refine oper_value 129 rfl (v := .bool true) (w' := u) (by rw [act185]; go_simp) ⟨_, rfl, gr_refl _ _, spL_at rfl rfl⟩
            · intro z u hg hfix dep
              have d129 : (EqV (.bool true)) (z 129) u := dep 18 (by kernel_rfl) _ rfl
              have q129 : z 129 = (.bool true) := d129
              refine .inl ⟨rfl, ?_⟩
              refine oper_value 130 rfl (v := .bool true) (w' := u) (by rw [act185]; go_simp) ⟨_, rfl, gr_refl _ _, spL_at rfl rfl⟩
            · intro z u hg hfix dep
              have e14 : z 14 = .pointer (some ⟨B1, 0, none⟩) := hfix 14 (by kernel_rfl)
              have d130 : (EqV (.bool true)) (z 130) u := dep 19 (by kernel_rfl) _ rfl
              have q130 : z 130 = (.bool true) := d130
              refine .inl ⟨wanted_at (N := 185) (b := true) rfl rfl (by decide) q130, ?_⟩
              refine oper_value 131 rfl (v := .pointer (some ⟨B1, 1, none⟩)) (w' := u) (by rw [act185]; go_simp) ⟨_, rfl, gr_refl _ _, spL_at rfl rfl⟩
            · intro z u hg hfix dep
              have d131 : (EqV (.pointer (some ⟨B1, 1, none⟩))) (z 131) u := dep 20 (by kernel_rfl) _ rfl
              have q131 : z 131 = (.pointer (some ⟨B1, 1, none⟩)) := d131
              have d130 : (EqV (.bool true)) (z 130) u := dep 19 (by kernel_rfl) _ rfl
              have q130 : z 130 = (.bool true) := d130
              refine .inl ⟨wanted_at (N := 185) (b := true) rfl rfl (by decide) q130, ?_⟩
              have c_ := P1.out u hg
              refine oper_value 132 rfl (v := .slice ka8 kn kc8) (w' := u) (by rw [act185]; go_simp) ⟨_, rfl, gr_refl _ _, spL_at rfl rfl⟩
            · intro z u hg hfix dep
              have d132 : (EqV (.slice ka8 kn kc8)) (z 132) u := dep 21 (by kernel_rfl) _ rfl
              have q132 : z 132 = (.slice ka8 kn kc8) := d132
              have d130 : (EqV (.bool true)) (z 130) u := dep 19 (by kernel_rfl) _ rfl
              have q130 : z 130 = (.bool true) := d130
              refine .inl ⟨wanted_at (N := 185) (b := true) rfl rfl (by decide) q130, ?_⟩
              refine oper_value 133 rfl (v := .int .i64 (kn : Int)) (w' := u) (by rw [act185]; go_simp) ⟨_, rfl, gr_refl _ _, spL_at rfl rfl⟩
            · intro z u hg hfix dep
              have d133 : (EqV (.int .i64 (kn : Int))) (z 133) u := dep 22 (by kernel_rfl) _ rfl
              have q133 : z 133 = (.int .i64 (kn : Int)) := d133
              have d130 : (EqV (.bool true)) (z 130) u := dep 19 (by kernel_rfl) _ rfl
              have q130 : z 130 = (.bool true) := d130
              refine .inl ⟨wanted_at (N := 185) (b := true) rfl rfl (by decide) q130, ?_⟩
              refine oper_value 134 rfl (v := .bool false) (w' := u) (by rw [act185]; go_simp) ⟨_, rfl, gr_refl _ _, spL_at rfl rfl⟩
            · intro z u hg hfix dep
              have d134 : (EqV (.bool false)) (z 134) u := dep 23 (by kernel_rfl) _ rfl
              have q134 : z 134 = (.bool false) := d134
              have d130 : (EqV (.bool true)) (z 130) u := dep 19 (by kernel_rfl) _ rfl
              have q130 : z 130 = (.bool true) := d130
              refine .inl ⟨wanted_at (N := 185) (b := true) rfl rfl (by decide) q130, ?_⟩
              refine oper_value 135 rfl (v := .bool false) (w' := u) (by rw [act185]; go_simp) ⟨_, rfl, gr_refl _ _, spL_at rfl rfl⟩
            · intro z u hg hfix dep
              have e14 : z 14 = .pointer (some ⟨B1, 0, none⟩) := hfix 14 (by kernel_rfl)
              have d135 : (EqV (.bool false)) (z 135) u := dep 24 (by kernel_rfl) _ rfl
              have q135 : z 135 = (.bool false) := d135
              refine .inl ⟨wanted_at (N := 185) (b := false) rfl rfl (by decide) q135, ?_⟩
              refine oper_value 136 rfl (v := .pointer (some ⟨B1, 1, none⟩)) (w' := u) (by rw [act185]; go_simp) ⟨_, rfl, gr_refl _ _, spL_at rfl rfl⟩
            · intro z u hg hfix dep
              have d136 : (EqV (.pointer (some ⟨B1, 1, none⟩))) (z 136) u := dep 25 (by kernel_rfl) _ rfl
              have q136 : z 136 = (.pointer (some ⟨B1, 1, none⟩)) := d136
              have d135 : (EqV (.bool false)) (z 135) u := dep 24 (by kernel_rfl) _ rfl
              have q135 : z 135 = (.bool false) := d135
              refine .inl ⟨wanted_at (N := 185) (b := false) rfl rfl (by decide) q135, ?_⟩
              have c_ := P1.out u hg
              refine oper_value 137 rfl (v := .slice ka8 kn kc8) (w' := u) (by rw [act185]; go_simp) ⟨_, rfl, gr_refl _ _, spL_at rfl rfl⟩
            · intro z u hg hfix dep
              have d137 : (EqV (.slice ka8 kn kc8)) (z 137) u := dep 26 (by kernel_rfl) _ rfl
              have q137 : z 137 = (.slice ka8 kn kc8) := d137
              have d135 : (EqV (.bool false)) (z 135) u := dep 24 (by kernel_rfl) _ rfl
              have q135 : z 135 = (.bool false) := d135
              refine .inl ⟨wanted_at (N := 185) (b := false) rfl rfl (by decide) q135, ?_⟩
              have c_ := CK.out u hg
              refine oper_value 138 rfl (v := .string c.key) (w' := u) (by rw [act185]; go_simp) ⟨_, rfl, gr_refl _ _, spL_at rfl rfl⟩
            · intro z u hg hfix dep
              have e3 : z 3 = .pointer (some ⟨q, 0, none⟩) := hfix 3 (by kernel_rfl)
              have d135 : (EqV (.bool false)) (z 135) u := dep 24 (by kernel_rfl) _ rfl
              have q135 : z 135 = (.bool false) := d135
              refine .inl ⟨wanted_at (N := 185) (b := false) rfl rfl (by decide) q135, ?_⟩
              refine oper_value 139 rfl (v := .pointer (some ⟨q, 0, none⟩)) (w' := u) (by rw [act185]; go_simp) ⟨_, rfl, gr_refl _ _, spL_at rfl rfl⟩
            · intro z u hg hfix dep
              have d139 : (EqV (.pointer (some ⟨q, 0, none⟩))) (z 139) u := dep 28 (by kernel_rfl) _ rfl
              have q139 : z 139 = (.pointer (some ⟨q, 0, none⟩)) := d139
              have d135 : (EqV (.bool false)) (z 135) u := dep 24 (by kernel_rfl) _ rfl
              have q135 : z 135 = (.bool false) := d135
              refine .inl ⟨wanted_at (N := 185) (b := false) rfl rfl (by decide) q135, ?_⟩
              have c_ := Q0.out u hg
              refine oper_value 140 rfl (v := .slice (some ⟨cb, co, none⟩) r.cmds.length cc) (w' := u) (by rw [act185]; go_simp) ⟨_, rfl, gr_refl _ _, spL_at rfl rfl⟩
            · intro z u hg hfix dep
              have d140 : (EqV (.slice (some ⟨cb, co, none⟩) r.cmds.length cc)) (z 140) u := dep 29 (by kernel_rfl) _ rfl
              have q140 : z 140 = (.slice (some ⟨cb, co, none⟩) r.cmds.length cc) := d140
              have d135 : (EqV (.bool false)) (z 135) u := dep 24 (by kernel_rfl) _ rfl
              have q135 : z 135 = (.bool false) := d135
              refine .inl ⟨wanted_at (N := 185) (b := false) rfl rfl (by decide) q135, ?_⟩
              refine oper_value 141 rfl (v := .pointer (some ⟨cb, co, none⟩)) (w' := u) (by rw [act185]; go_simp) ⟨_, rfl, gr_refl _ _, spL_at rfl rfl⟩
            · intro z u hg hfix dep
              have d141 : (EqV (.pointer (some ⟨cb, co, none⟩))) (z 141) u := dep 30 (by kernel_rfl) _ rfl
              have q141 : z 141 = (.pointer (some ⟨cb, co, none⟩)) := d141
              have d135 : (EqV (.bool false)) (z 135) u := dep 24 (by kernel_rfl) _ rfl
              have q135 : z 135 = (.bool false) := d135
              refine .inl ⟨wanted_at (N := 185) (b := false) rfl rfl (by decide) q135, ?_⟩
              refine oper_value 142 rfl (v := .pointer (some ⟨cb, co + 1, none⟩)) (w' := u) (by rw [act185]; go_simp) ⟨_, rfl, gr_refl _ _, spL_at rfl rfl⟩
            · intro z u hg hfix dep
              have d142 : (EqV (.pointer (some ⟨cb, co + 1, none⟩))) (z 142) u := dep 31 (by kernel_rfl) _ rfl
              have q142 : z 142 = (.pointer (some ⟨cb, co + 1, none⟩)) := d142
              have d135 : (EqV (.bool false)) (z 135) u := dep 24 (by kernel_rfl) _ rfl
              have q135 : z 135 = (.bool false) := d135
              refine .inl ⟨wanted_at (N := 185) (b := false) rfl rfl (by decide) q135, ?_⟩
              have c_ := K1.out u hg
              refine oper_value 143 rfl (v := .string c.key) (w' := u) (by rw [act185]; go_simp) ⟨_, rfl, gr_refl _ _, spL_at rfl rfl⟩
            · intro z u hg hfix dep
              have d138 : (EqV (.string c.key)) (z 138) u := dep 27 (by kernel_rfl) _ rfl
              have q138 : z 138 = (.string c.key) := d138
              have d143 : (EqV (.string c.key)) (z 143) u := dep 32 (by kernel_rfl) _ rfl
              have q143 : z 143 = (.string c.key) := d143
              have d135 : (EqV (.bool false)) (z 135) u := dep 24 (by kernel_rfl) _ rfl
              have q135 : z 135 = (.bool false) := d135
              refine .inl ⟨wanted_at (N := 185) (b := false) rfl rfl (by decide) q135, ?_⟩
              refine oper_value 144 rfl (v := .bool true) (w' := u) (by rw [act185]; go_simp) ⟨_, rfl, gr_refl _ _, spL_at rfl rfl⟩
            · intro z u hg hfix dep
              have d135 : (EqV (.bool false)) (z 135) u := dep 24 (by kernel_rfl) _ rfl
              have q135 : z 135 = (.bool false) := d135
              have d144 : (EqV (.bool true)) (z 144) u := dep 33 (by kernel_rfl) _ rfl
              have q144 : z 144 = (.bool true) := d144
              have d130 : (EqV (.bool true)) (z 130) u := dep 19 (by kernel_rfl) _ rfl
              have q130 : z 130 = (.bool true) := d130
              refine .inl ⟨wanted_at (N := 185) (b := true) rfl rfl (by decide) q130, ?_⟩
              refine oper_value 145 rfl (v := .bool true) (w' := u) (by rw [act185]; go_simp) ⟨_, rfl, gr_refl _ _, spL_at rfl rfl⟩
            · intro z u hg hfix dep
              have d130 : (EqV (.bool true)) (z 130) u := dep 19 (by kernel_rfl) _ rfl
              have q130 : z 130 = (.bool true) := d130
              have d145 : (EqV (.bool true)) (z 145) u := dep 34 (by kernel_rfl) _ rfl
              have q145 : z 145 = (.bool true) := d145
              refine .inl ⟨rfl, ?_⟩
              refine oper_value 146 rfl (v := .bool true) (w' := u) (by rw [act185]; go_simp) ⟨_, rfl, gr_refl _ _, spL_at rfl rfl⟩
            · intro z u hg hfix dep
              have d146 : (EqV (.bool true)) (z 146) u := dep 35 (by kernel_rfl) _ rfl
              have q146 : z 146 = (.bool true) := d146
              refine .inl ⟨rfl, ?_⟩
              refine oper_value 6 rfl (v := .bool true) (w' := u) (by rw [act185]; go_simp) ⟨_, rfl, gr_refl _ _, spL_at rfl rfl⟩
          · intro z u hg hfix h
            have k6 : z 6 = .bool true := h 36 (by decide) _ rfl
            rw [act185, k6]
            go_wp2
            go_ret
            exact ⟨by first | rfl | (simp; done), below_gr (gr_trans GU.out hg)⟩
      · have z0 : (x.s == 0) = false := by rw [hs]; rfl
        have z7 : (x.s == 7) = true := by rw [hs]; rfl
        have k2 := p2.out
        rw [hV8] at k2
        clear hs hV8 KP
        go_wp2
        go_ret
        exact ⟨by first | rfl | (simp; done), below_gr GU.out⟩
      · have z0 : (x.s == 0) = false := by rw [hs]; rfl
        have z7 : (x.s == 7) = false := by rw [hs]; rfl
        have z2 : (x.s == 2) = true := by rw [hs]; rfl
        have k2 : U2.cell? ⟨B1, 2, none⟩ = some (.slice va 0 vc) := p2.out
        clear hs KP
        go_wp2
        go_ret
        exact ⟨by first | rfl | (simp; done), below_gr GU.out⟩
      · have z0 := eq_false h0
        have z7 := eq_false h7
        have z2 := eq_false h2'
        have k1 : U2.cell? ⟨B1, 1, none⟩ = some (.slice ka8 0 kc8) := p1.out
        have k2 : U2.cell? ⟨B1, 0, none⟩ = some (.slice xa 0 xc) := p0.out
        clear h0 h7 h2' KP
        go_wp2
        go_ret
        exact ⟨by first | rfl | (simp; done), below_gr GU.out⟩
end
end Go.Proofs.Ytaafkefgpgoepaa
