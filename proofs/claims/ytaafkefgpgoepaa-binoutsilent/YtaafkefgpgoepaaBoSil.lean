/- BinoutSilent returns true for every request and all results, and writes nothing that was there. Conditions: what the package is asked for; an opaque number of 32 bits. -/
import Derived.Test.YtaafkefgpgoepaaBoAw
import Derived.Test.YtaafkefgpgoepaaOutFew
namespace Go.Proofs.Ytaafkefgpgoepaa
set_option linter.unusedVariables false
set_option linter.unusedSimpArgs false
open Go.RowKit Go.Shelf

theorem oneA_hushS {f : Fv} {c : Cv} {x : Rv} (h : hushA f.quiet c.op x.s = true) : (oneA f c x).length = 0 := by unfold oneA; rw [if_pos h]; rfl
theorem oneA_loud {f : Fv} {c : Cv} {x : Rv} (h : hushA f.quiet c.op x.s = false) : 24 ≤ (oneA f c x).length := by
  unfold oneA
  rw [if_neg (by rw [h]; decide)]
  repeat' split
  all_goals
    rw [packA_len]
    omega
theorem sil_no {l : List UInt8} {n : Nat} (h : l.length = 0) (hn : l.length = n) : ((n : Int) == 0) = true ∧ ¬ (24 : Int) ≤ (n : Int) := by
  obtain rfl : n = 0 := by omega
  exact ⟨rfl, by decide⟩
theorem sil_yes {l : List UInt8} {n : Nat} (h : 24 ≤ l.length) (hn : l.length = n) : ((n : Int) == 0) = false ∧ (24 : Int) ≤ (n : Int) := ⟨by rw [beq_eq_false_iff_ne]; omega, by omega⟩
theorem first_op {W : World} {ca : Option Addr} {len cap : Nat} {cs : List Cv} (hc : Cu W ca len cap cs) (h0 : 0 < len) : ∃ b off, ca = some ⟨b, off, none⟩ ∧ W.cell? ⟨b, off, none⟩ = some (.int .i64 (cs[0]'(by rw [hc.n]; exact h0)).op) := by
  obtain ⟨b, off, e, va, vc, hr, _⟩ := hc.get h0
  refine ⟨b, off, e, ?_⟩
  have := hr 0 _ rfl
  simpa using this
theorem encA_cons {r : Qv} {xs : List Rv} (h1 : 0 < r.cmds.length) (h2 : 0 < xs.length) : encA r xs = oneA r.form r.cmds[0] xs[0] := by
  obtain ⟨cs, f⟩ := r
  cases cs with
  | nil => exact absurd h1 (Nat.lt_irrefl 0)
  | cons c cs =>
    cases xs with
    | nil => exact absurd h2 (Nat.lt_irrefl 0)
    | cons x xs => rfl
section
set_option maxRecDepth 100000 in
set_option maxHeartbeats 4000000 in
theorem binoutSilent_lib (L : BoLib) (W : World) (r : Qv) (ca : Option Addr) (cc : Nat) (ta : Option Addr) (tc : Nat) (ka : Option Addr) (kc : Nat) (hq : QAt W r ca cc ta tc ka kc) (ho : 0 ≤ r.form.opq ∧ r.form.opq < 4294967296) (la : Option Addr) (lc : Nat) (xs : List Rv) (hx : Ru W la xs.length lc xs) :
    Calls Try.prog 6 #[.agg (rqC r ca cc ta tc ka kc), .slice la xs.length lc] W fun e W' => e = .returned (.bool true) ∧ Below W.heap.size W W' := by
  have B := QBox.new W r ca ta ka cc tc kc
  obtain ⟨V, hV⟩ : ∃ V, V = W.alloc (.cells (rqC r ca cc ta tc ka kc) 28) := ⟨_, rfl⟩
  obtain ⟨q, hqq⟩ : ∃ q, q = W.heap.size := ⟨_, rfl⟩
  rw [← hV, ← hqq] at B
  have HB := hide B
  have HR : Hid (rqC r ca cc ta tc ka kc = #[.slice ca r.cmds.length cc, .int .i64 r.form.dia, .string r.form.verb, .int .i64 r.form.code, .int .u32 r.form.opq, .bool r.form.quiet, .bool r.form.wcas, .string r.form.flags, .slice ta r.form.toks.length tc, .slice ka r.form.keys.length kc, .bool r.form.b64]) := rfl
  rw [HR.out] at hV
  rw [HR.out]
  go_enter Try.func6, Try.ntmps6
  go_upto_region 1 with fail
  rw [← hV, ← hqq]
  clear hV hqq B
  go_upto_region 3 with (first
    | (go_at_call 8; refine (awake_any L).mono ?_; rintro e w2 ⟨rfl, g2⟩; have B2 := hide (HB.out.on g2); clear g2)
    | (refine wpList_load_row rfl 28 _ rfl q rfl _ _ _ _ B2.out.row Try.underlying28 rfl (req_size _ _ _ _ _ _ _) ?_)
    | (go_at_call 9; refine (few_any (hq.on (below_gr B2.out.gr)) (hx.on (below_gr B2.out.gr))).mono ?_; rintro e w3 ⟨ok, rfl, hok, g3⟩; have B3 := hide (B2.out.on g3); clear g3))
  cases ok with
  | false =>
    go_wp2
    go_ret
    exact ⟨rfl, below_gr B3.out.gr⟩
  | true =>
    have hf := hok rfl
    clear hok B2 HB
    obtain ⟨c0, c4, -, -, -⟩ := B3.out.cells
    by_cases hN : r.cmds.length = 0
    · have n0 : ((r.cmds.length : Int) == 0) = true := by rw [hN]; rfl
      clear hN
      go_wp2
      go_ret
      exact ⟨rfl, below_gr B3.out.gr⟩
    have n0 : ((r.cmds.length : Int) == 0) = false := by rw [beq_eq_false_iff_ne]; omega
    by_cases hM : xs.length = 0
    · have m0 : ((xs.length : Int) == 0) = true := by rw [hM]; rfl
      clear hN hM
      go_wp2
      go_ret
      exact ⟨rfl, below_gr B3.out.gr⟩
    have m0 : ((xs.length : Int) == 0) = false := by rw [beq_eq_false_iff_ne]; omega
    have h1 : 0 < r.cmds.length := by omega
    have h2 : 0 < xs.length := by omega
    have h1i : (0 : Int) < (r.cmds.length : Int) := by omega
    have h2i : (0 : Int) < (xs.length : Int) := by omega
    have HQ3 := hq.on (below_gr B3.out.gr)
    have HX3 := hx.on (below_gr B3.out.gr)
    have HE := hide (L.enc _ _ _ _ _ _ _ _ _ _ _ HQ3 HX3 hf ho.1 ho.2)
    rw [encA_cons h1 h2] at HE
    obtain ⟨cb, co, rfl, k3⟩ := first_op HQ3.cmds h1
    obtain ⟨lb, lo, rfl, hlb, va, vc, hr, hbu⟩ := HX3.get h2
    rw [Nat.zero_mul, Nat.add_zero] at hr
    have s3 : w3.cell? ⟨lb, lo, none⟩ = some (.int .i64 (xs[0]).s) := hr 0 _ rfl
    have HC := hide (fun W => L.code (xs[0]).s W)
    generalize hcc : r.cmds[0] = c at *
    generalize hxx : xs[0] = x at *
    clear hcc hxx hr hbu hlb HQ3 HX3 hq hx hM hN h1 h2 hf ho
    have lo' := @oneA_hushS r.form c x
    have up' := @oneA_loud r.form c x
    generalize hl : oneA r.form c x = l at *
    clear hl
    cases hqt : r.form.quiet
    all_goals
      rw [hqt] at c4 lo' up'
    · have HL := hide (up' rfl)
      clear lo' up'
      by_cases o0 : c.op = 0
      · have z0 : (c.op == 0) = true := by rw [o0]; rfl
        clear o0
        go_wp2_with (first
          | (refine wpList_load_row rfl 28 _ rfl q rfl _ _ _ _ B3.out.row Try.underlying28 rfl (req_size _ _ _ _ _ _ _) ?_)
          | (go_at_call 10; refine Calls.mono HE.out ?_; rintro e w5 ⟨a5, n5, c5, rfl, l5, b5, g5⟩; have B5 := B3.out.on g5; obtain ⟨d0, d4, -, -, -⟩ := B5.cells; rw [hqt] at d4; have k5 := keep_cell g5 k3; have s5 := keep_cell g5 s3; have HG := hide B5.gr; obtain ⟨e1, e2⟩ := sil_yes HL.out b5.n; clear B5 b5 c0 c4 k3 s3 g5)
          | (go_at_call 12; refine (HC.out _).mono ?_; rintro e w6 ⟨rfl, rfl⟩))
        go_ret
        exact ⟨by first | rfl | (simp; done) | (simp [*]; done), below_gr HG.out⟩
      · have z0 : (c.op == 0) = false := by rw [beq_eq_false_iff_ne]; exact o0
        by_cases o1 : c.op = 1
        · have z1 : (c.op == 1) = true := by rw [o1]; rfl
          clear o0 o1
          go_wp2_with (first
            | (refine wpList_load_row rfl 28 _ rfl q rfl _ _ _ _ B3.out.row Try.underlying28 rfl (req_size _ _ _ _ _ _ _) ?_)
            | (go_at_call 10; refine Calls.mono HE.out ?_; rintro e w5 ⟨a5, n5, c5, rfl, l5, b5, g5⟩; have B5 := B3.out.on g5; obtain ⟨d0, d4, -, -, -⟩ := B5.cells; rw [hqt] at d4; have k5 := keep_cell g5 k3; have s5 := keep_cell g5 s3; have HG := hide B5.gr; obtain ⟨e1, e2⟩ := sil_yes HL.out b5.n; clear B5 b5 c0 c4 k3 s3 g5)
            | (go_at_call 12; refine (HC.out _).mono ?_; rintro e w6 ⟨rfl, rfl⟩))
          go_ret
          exact ⟨by first | rfl | (simp; done) | (simp [*]; done), below_gr HG.out⟩
        · have z1 : (c.op == 1) = false := by rw [beq_eq_false_iff_ne]; exact o1
          clear o0 o1
          go_wp2_with (first
            | (refine wpList_load_row rfl 28 _ rfl q rfl _ _ _ _ B3.out.row Try.underlying28 rfl (req_size _ _ _ _ _ _ _) ?_)
            | (go_at_call 10; refine Calls.mono HE.out ?_; rintro e w5 ⟨a5, n5, c5, rfl, l5, b5, g5⟩; have B5 := B3.out.on g5; obtain ⟨d0, d4, -, -, -⟩ := B5.cells; rw [hqt] at d4; have k5 := keep_cell g5 k3; have s5 := keep_cell g5 s3; have HG := hide B5.gr; obtain ⟨e1, e2⟩ := sil_yes HL.out b5.n; clear B5 b5 c0 c4 k3 s3 g5)
            | (go_at_call 12; refine (HC.out _).mono ?_; rintro e w6 ⟨rfl, rfl⟩))
          go_ret
          exact ⟨by first | rfl | (simp; done) | (simp [*]; done), below_gr HG.out⟩
    · by_cases o0 : c.op = 0
      · have z0 : (c.op == 0) = true := by rw [o0]; rfl
        by_cases hs : x.s = 1
        · have y1 : (x.s == 1) = true := by rw [hs]; rfl
          have HL := hide (lo' (by unfold hushA; rw [if_pos (.inl o0), hs]; rfl))
          clear lo' up' o0 hs
          go_wp2_with (first
            | (refine wpList_load_row rfl 28 _ rfl q rfl _ _ _ _ B3.out.row Try.underlying28 rfl (req_size _ _ _ _ _ _ _) ?_)
            | (go_at_call 10; refine Calls.mono HE.out ?_; rintro e w5 ⟨a5, n5, c5, rfl, l5, b5, g5⟩; have B5 := B3.out.on g5; obtain ⟨d0, d4, -, -, -⟩ := B5.cells; rw [hqt] at d4; have k5 := keep_cell g5 k3; have s5 := keep_cell g5 s3; have HG := hide B5.gr; obtain ⟨e1, e2⟩ := sil_no HL.out b5.n; clear B5 b5 c0 c4 k3 s3 g5)
            | (go_at_call 12; refine (HC.out _).mono ?_; rintro e w6 ⟨rfl, rfl⟩))
          go_ret
          exact ⟨by first | rfl | (simp; done) | (simp [*]; done), below_gr HG.out⟩
        · have y1 : (x.s == 1) = false := by rw [beq_eq_false_iff_ne]; exact hs
          have HL := hide (up' (by unfold hushA; rw [if_pos (.inl o0)]; simp [hs]))
          clear lo' up' o0 hs
          go_wp2_with (first
            | (refine wpList_load_row rfl 28 _ rfl q rfl _ _ _ _ B3.out.row Try.underlying28 rfl (req_size _ _ _ _ _ _ _) ?_)
            | (go_at_call 10; refine Calls.mono HE.out ?_; rintro e w5 ⟨a5, n5, c5, rfl, l5, b5, g5⟩; have B5 := B3.out.on g5; obtain ⟨d0, d4, -, -, -⟩ := B5.cells; rw [hqt] at d4; have k5 := keep_cell g5 k3; have s5 := keep_cell g5 s3; have HG := hide B5.gr; obtain ⟨e1, e2⟩ := sil_yes HL.out b5.n; clear B5 b5 c0 c4 k3 s3 g5)
            | (go_at_call 12; refine (HC.out _).mono ?_; rintro e w6 ⟨rfl, rfl⟩))
          go_ret
          exact ⟨by first | rfl | (simp; done) | (simp [*]; done), below_gr HG.out⟩
      · have z0 : (c.op == 0) = false := by rw [beq_eq_false_iff_ne]; exact o0
        by_cases o1 : c.op = 1
        · have z1 : (c.op == 1) = true := by rw [o1]; rfl
          by_cases hs : x.s = 1
          · have y1 : (x.s == 1) = true := by rw [hs]; rfl
            have HL := hide (lo' (by unfold hushA; rw [if_pos (.inr o1), hs]; rfl))
            clear lo' up' o0 o1 hs
            go_wp2_with (first
              | (refine wpList_load_row rfl 28 _ rfl q rfl _ _ _ _ B3.out.row Try.underlying28 rfl (req_size _ _ _ _ _ _ _) ?_)
              | (go_at_call 10; refine Calls.mono HE.out ?_; rintro e w5 ⟨a5, n5, c5, rfl, l5, b5, g5⟩; have B5 := B3.out.on g5; obtain ⟨d0, d4, -, -, -⟩ := B5.cells; rw [hqt] at d4; have k5 := keep_cell g5 k3; have s5 := keep_cell g5 s3; have HG := hide B5.gr; obtain ⟨e1, e2⟩ := sil_no HL.out b5.n; clear B5 b5 c0 c4 k3 s3 g5)
              | (go_at_call 12; refine (HC.out _).mono ?_; rintro e w6 ⟨rfl, rfl⟩))
            go_ret
            exact ⟨by first | rfl | (simp; done) | (simp [*]; done), below_gr HG.out⟩
          · have y1 : (x.s == 1) = false := by rw [beq_eq_false_iff_ne]; exact hs
            have HL := hide (up' (by unfold hushA; rw [if_pos (.inr o1)]; simp [hs]))
            clear lo' up' o0 o1 hs
            go_wp2_with (first
              | (refine wpList_load_row rfl 28 _ rfl q rfl _ _ _ _ B3.out.row Try.underlying28 rfl (req_size _ _ _ _ _ _ _) ?_)
              | (go_at_call 10; refine Calls.mono HE.out ?_; rintro e w5 ⟨a5, n5, c5, rfl, l5, b5, g5⟩; have B5 := B3.out.on g5; obtain ⟨d0, d4, -, -, -⟩ := B5.cells; rw [hqt] at d4; have k5 := keep_cell g5 k3; have s5 := keep_cell g5 s3; have HG := hide B5.gr; obtain ⟨e1, e2⟩ := sil_yes HL.out b5.n; clear B5 b5 c0 c4 k3 s3 g5)
              | (go_at_call 12; refine (HC.out _).mono ?_; rintro e w6 ⟨rfl, rfl⟩))
            go_ret
            exact ⟨by first | rfl | (simp; done) | (simp [*]; done), below_gr HG.out⟩
        · have z1 : (c.op == 1) = false := by rw [beq_eq_false_iff_ne]; exact o1
          have ho : ¬ (c.op = 0 ∨ c.op = 1) := by omega
          by_cases hs : codeN x.s = 0
          · have y1 : (codeN x.s == 0) = true := by rw [hs]; rfl
            have HL := hide (lo' (by unfold hushA; rw [if_neg ho, hs]; rfl))
            clear lo' up' o0 o1 hs ho
            go_wp2_with (first
              | (refine wpList_load_row rfl 28 _ rfl q rfl _ _ _ _ B3.out.row Try.underlying28 rfl (req_size _ _ _ _ _ _ _) ?_)
              | (go_at_call 10; refine Calls.mono HE.out ?_; rintro e w5 ⟨a5, n5, c5, rfl, l5, b5, g5⟩; have B5 := B3.out.on g5; obtain ⟨d0, d4, -, -, -⟩ := B5.cells; rw [hqt] at d4; have k5 := keep_cell g5 k3; have s5 := keep_cell g5 s3; have HG := hide B5.gr; obtain ⟨e1, e2⟩ := sil_no HL.out b5.n; clear B5 b5 c0 c4 k3 s3 g5)
              | (go_at_call 12; refine (HC.out _).mono ?_; rintro e w6 ⟨rfl, rfl⟩))
            go_ret
            exact ⟨by first | rfl | (simp; done) | (simp [*]; done), below_gr HG.out⟩
          · have y1 : (codeN x.s == 0) = false := by rw [beq_eq_false_iff_ne]; exact hs
            have HL := hide (up' (by unfold hushA; rw [if_neg ho]; simp [hs]))
            clear lo' up' o0 o1 hs ho
            go_wp2_with (first
              | (refine wpList_load_row rfl 28 _ rfl q rfl _ _ _ _ B3.out.row Try.underlying28 rfl (req_size _ _ _ _ _ _ _) ?_)
              | (go_at_call 10; refine Calls.mono HE.out ?_; rintro e w5 ⟨a5, n5, c5, rfl, l5, b5, g5⟩; have B5 := B3.out.on g5; obtain ⟨d0, d4, -, -, -⟩ := B5.cells; rw [hqt] at d4; have k5 := keep_cell g5 k3; have s5 := keep_cell g5 s3; have HG := hide B5.gr; obtain ⟨e1, e2⟩ := sil_yes HL.out b5.n; clear B5 b5 c0 c4 k3 s3 g5)
              | (go_at_call 12; refine (HC.out _).mono ?_; rintro e w6 ⟨rfl, rfl⟩))
            go_ret
            exact ⟨by first | rfl | (simp; done) | (simp [*]; done), below_gr HG.out⟩
end
end Go.Proofs.Ytaafkefgpgoepaa
