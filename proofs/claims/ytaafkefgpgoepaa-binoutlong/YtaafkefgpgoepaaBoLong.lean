/- BinoutLong returns true for every form, every result and any key, and writes nothing that was there. Conditions: what the package is asked for; an opaque number of 32 bits. -/
import Derived.Test.YtaafkefgpgoepaaBoAw
import Derived.Test.YtaafkefgpgoepaaBoLongM
import Derived.Test.YtaafkefgpgoepaaRegionInv
namespace Go.Proofs.Ytaafkefgpgoepaa
set_option linter.unusedVariables false
set_option linter.unusedSimpArgs false
open Go.RowKit Go.Shelf

/-- The statement's own blocks. -/
def lgA (key : ByteArray) : Obj := .cells #[.int .i64 0, .string key, .slice none 0 0, .int .u32 0, .int .i64 0, .int .u64 0, .int .u64 0, .int .u64 0, .bool false, .bool false] 48
def lgB (n : Nat) (f : Fv) (ta : Option Addr) (tc : Nat) (ka : Option Addr) (kc : Nat) : Obj := .cells #[.slice (some ⟨n, 0, none⟩) 1 1, .int .i64 f.dia, .string f.verb, .int .i64 f.code, .int .u32 f.opq, .bool f.quiet, .bool f.wcas, .string f.flags, .slice ta f.toks.length tc, .slice ka f.keys.length kc, .bool f.b64] 28
def lgX (x : Rv) (va : Option Addr) (vc : Nat) : Obj := .cells #[.int .i64 x.s, .slice va x.val.length vc, .int .u32 x.fl, .int .u64 x.cas, .int .i64 x.ttl, .int .u64 x.num, .bool x.st, .bool x.won, .bool x.lost] 46
def lgC (key : ByteArray) : Cv := ⟨0, key, [], 0, 0, 0, 0, 0, false, false⟩
def lgW (w : World) (f : Fv) (ta : Option Addr) (tc : Nat) (ka : Option Addr) (kc : Nat) (key : ByteArray) (x : Rv) (va : Option Addr) (vc : Nat) : World := ((w.alloc (lgA key)).alloc (lgB w.heap.size f ta tc ka kc)).alloc (lgX x va vc)
section
variable {w : World} {f : Fv} {ta : Option Addr} {tc : Nat} {ka : Option Addr} {kc : Nat} {key : ByteArray} {x : Rv} {va : Option Addr} {vc : Nat}
theorem lgW_gr : w.grownBy (lgW w f ta tc ka kc key x va vc) none := gr_trans (World.grownBy_alloc _ _ _) (gr_trans (World.grownBy_alloc _ _ _) (World.grownBy_alloc _ _ _))
theorem lgW_blocks : (lgW w f ta tc ka kc key x va vc).heap[w.heap.size]? = some (lgA key) ∧ (lgW w f ta tc ka kc key x va vc).heap[w.heap.size + 1 + 1]? = some (lgX x va vc) ∧ (lgW w f ta tc ka kc key x va vc).heap.size = w.heap.size + 3 := by
  obtain ⟨W1, h1⟩ : ∃ W1, W1 = w.alloc (lgA key) := ⟨_, rfl⟩
  obtain ⟨W2, h2⟩ : ∃ W2, W2 = W1.alloc (lgB w.heap.size f ta tc ka kc) := ⟨_, rfl⟩
  obtain ⟨W3, h3⟩ : ∃ W3, W3 = W2.alloc (lgX x va vc) := ⟨_, rfl⟩
  have e : lgW w f ta tc ka kc key x va vc = W3 := by rw [h3, h2, h1]; rfl
  have s1 : W1.heap.size = w.heap.size + 1 := by rw [h1, World.size_alloc]
  have s2 : W2.heap.size = w.heap.size + 1 + 1 := by rw [h2, World.size_alloc, s1]
  have b1 : W1.heap[w.heap.size]? = some (lgA key) := by rw [h1]; exact World.alloc_heap_new w _
  have b3 : W3.heap[w.heap.size + 1 + 1]? = some (lgX x va vc) := by rw [h3, ← s2]; exact World.alloc_heap_new W2 _
  have g12 : W1.grownBy W2 none := by rw [h2]; exact World.grownBy_alloc _ _ _
  have g23 : W2.grownBy W3 none := by rw [h3]; exact World.grownBy_alloc _ _ _
  rw [e]
  exact ⟨((gr_trans g12 g23).block _ (by omega) (by simp)).trans b1, b3, by rw [h3, World.size_alloc, s2]⟩
theorem lg_start (ht : Su w ta f.toks.length tc f.toks) (hk : Su w ka f.keys.length kc f.keys) (hxo : x.ok) (hv : Bu w va x.val.length vc x.val) : QAt (lgW w f ta tc ka kc key x va vc) ⟨[lgC key], f⟩ (some ⟨w.heap.size, 0, none⟩) 1 ta tc ka kc ∧ Ru (lgW w f ta tc ka kc key x va vc) (some ⟨w.heap.size + 1 + 1, 0, none⟩) 1 1 [x] := by
  obtain ⟨b1, b2, hs⟩ := @lgW_blocks w f ta tc ka kc key x va vc
  have g := below_gr (@lgW_gr w f ta tc ka kc key x va vc)
  have one : ∀ {α : Type} {a b : α} {i : Nat}, [a][i]? = some b → i = 0 ∧ b = a := fun {α a b i} h => by
    cases i with
    | zero => exact ⟨rfl, (Option.some.inj h).symm⟩
    | succ i => simp at h
  have hm : (1 : Nat) ≤ maxLen := by decide
  refine ⟨⟨⟨rfl, Nat.le_refl _, hm, .inr ⟨w.heap.size, 0, rfl, by omega, fun i c hi => ?_⟩⟩, ht.on g, hk.on g⟩, ⟨rfl, Nat.le_refl _, hm, fun y hy => ?_, .inr ⟨w.heap.size + 1 + 1, 0, rfl, by omega, fun i c hi => ?_⟩⟩⟩
  · obtain ⟨rfl, rfl⟩ := one hi
    exact ⟨none, 0, range_new b1, rfl, .inl ⟨rfl, rfl, fun _ => rfl⟩, Nat.le_refl _, Nat.zero_le _⟩
  · obtain rfl : y = x := by simpa using hy
    exact hxo
  · obtain ⟨rfl, rfl⟩ := one hi
    exact ⟨va, vc, range_new b2, hv.on g⟩
theorem lg_few (h1 : key.size ≤ 1000) (h2 : x.val.length ≤ 2000) : FewR ⟨[lgC key], f⟩ [x] := by
  refine ⟨by simp, by simp, fun c hc => ?_, fun y hy => ?_⟩
  · obtain rfl : c = lgC key := by simpa using hc
    exact h1
  · obtain rfl : y = x := by simpa using hy
    exact h2
/-- The answer, as the statement asks for it. -/
theorem lg_call (L : BoLib) (ho : 0 ≤ f.opq ∧ f.opq < 4294967296) (h1 : key.size ≤ 1000) (h2 : x.val.length ≤ 2000) (ht : Su w ta f.toks.length tc f.toks) (hk : Su w ka f.keys.length kc f.keys) (hxo : x.ok) (hv : Bu w va x.val.length vc x.val) :
    Calls Try.prog 10 #[.agg #[.slice (some ⟨w.heap.size, 0, none⟩) 1 1, .int .i64 f.dia, .string f.verb, .int .i64 f.code, .int .u32 f.opq, .bool f.quiet, .bool f.wcas, .string f.flags, .slice ta f.toks.length tc, .slice ka f.keys.length kc, .bool f.b64], .slice (some ⟨w.heap.size + 1 + 1, 0, none⟩) 1 1] (lgW w f ta tc ka kc key x va vc) fun e w' => EncE (oneA f (lgC key) x) (lgW w f ta tc ka kc key x va vc) e w' := by
  obtain ⟨hq, hx⟩ := @lg_start w f ta tc ka kc key x va vc ht hk hxo hv
  exact L.enc _ _ _ _ _ _ _ _ _ _ _ hq hx (lg_few h1 h2) ho.1 ho.2
/-- The bytes of a head, each in its place. -/
structure LgB (W : World) (g off : Nat) (X : Int) (b2 b3 b8 b9 b10 b11 : Int) : Prop where
  c0 : W.cell? ⟨g, off, none⟩ = some (.int .u8 129)
  c2 : W.cell? ⟨g, off + 2, none⟩ = some (.int .u8 b2)
  c3 : W.cell? ⟨g, off + 3, none⟩ = some (.int .u8 b3)
  c4 : W.cell? ⟨g, off + 4, none⟩ = some (.int .u8 X)
  c8 : W.cell? ⟨g, off + 8, none⟩ = some (.int .u8 b8)
  c9 : W.cell? ⟨g, off + 9, none⟩ = some (.int .u8 b9)
  c10 : W.cell? ⟨g, off + 10, none⟩ = some (.int .u8 b10)
  c11 : W.cell? ⟨g, off + 11, none⟩ = some (.int .u8 b11)
/-- The sums, told step by step. -/
structure LgS (K N : Int) (b2 b3 b8 b9 b10 b11 : Int) : Prop where
  w2 : wrap64 b2 = b2
  w3 : wrap64 b3 = b3
  w8 : wrap64 b8 = b8
  w9 : wrap64 b9 = b9
  w10 : wrap64 b10 = b10
  w11 : wrap64 b11 = b11
  m2 : wrap64 (b2 * 256) = b2 * 256
  s2 : wrap64 (b2 * 256 + b3) = K
  m8 : wrap64 (b8 * 16777216) = b8 * 16777216
  m9 : wrap64 (b9 * 65536) = b9 * 65536
  m10 : wrap64 (b10 * 256) = b10 * 256
  s8 : wrap64 (b8 * 16777216 + b9 * 65536) = b8 * 16777216 + b9 * 65536
  s9 : wrap64 (b8 * 16777216 + b9 * 65536 + b10 * 256) = b8 * 16777216 + b9 * 65536 + b10 * 256
  s10 : wrap64 (b8 * 16777216 + b9 * 65536 + b10 * 256 + b11) = N
theorem lg_bytes {W : World} {a : Option Addr} {n c : Nat} {l : List UInt8} {X K N : Nat} (h : LongF l X K N) (hb : Bu W a n c l) : ∃ g off, a = some ⟨g, off, none⟩ ∧ n = 24 + N ∧ ∃ b2 b3 b8 b9 b10 b11 : Int, LgB W g off X b2 b3 b8 b9 b10 b11 ∧ LgS K N b2 b3 b8 b9 b10 b11 := by
  have hl := h.len
  have hn := hb.n
  obtain ⟨g, off, rfl⟩ := bu_at hb (by omega)
  have hu : ∀ i, (l.getD i 0).toNat < 256 := fun i => (l.getD i 0).toNat_lt
  have cc : ∀ i, i < 24 → W.cell? ⟨g, off + i, none⟩ = some (.int .u8 ((l.getD i 0).toNat : Int)) := fun i hi => by
    have := bu_cell hb i (by omega)
    rw [List.getD_eq_getElem?_getD, List.getElem?_eq_getElem (by omega)]
    exact this
  have u2 := hu 2
  have u3 := hu 3
  have u8 := hu 8
  have u9 := hu 9
  have u10 := hu 10
  have u11 := hu 11
  have hk := h.k
  have hN := h.n
  have h0 := h.b0
  have h4 := h.b4
  refine ⟨g, off, rfl, by omega, _, _, _, _, _, _, ⟨?_, cc 2 (by decide), cc 3 (by decide), ?_, cc 8 (by decide), cc 9 (by decide), cc 10 (by decide), cc 11 (by decide)⟩, ⟨?_, ?_, ?_, ?_, ?_, ?_, ?_, ?_, ?_, ?_, ?_, ?_, ?_, ?_⟩⟩
  · have := cc 0 (by decide)
    rw [h0] at this
    exact this
  · have := cc 4 (by decide)
    rw [h4] at this
    exact this
  all_goals
    unfold wrap64
    omega
end
/-- What a row of 24 + N bytes asks of indices. -/
structure LgL (M N : Nat) : Prop where
  l0 : (0 : Int) < (M : Int)
  l2 : (2 : Int) < (M : Int)
  l3 : (3 : Int) < (M : Int)
  l4 : (4 : Int) < (M : Int)
  l8 : (8 : Int) < (M : Int)
  l9 : (9 : Int) < (M : Int)
  l10 : (10 : Int) < (M : Int)
  l11 : (11 : Int) < (M : Int)
  m0 : ¬ M = 0
  m2 : 2 < M
  m3 : 3 < M
  m4 : 4 < M
  m8 : 8 < M
  m9 : 9 < M
  m10 : 10 < M
  m11 : 11 < M
  n24 : ¬ (M : Int) < 24
  d : wrap64 ((M : Int) - 24) = (N : Int)
theorem lgL_of {M N : Nat} (h : M = 24 + N) (hN : N ≤ 3000) : LgL M N := by
  have hd : wrap64 ((M : Int) - 24) = (N : Int) := by unfold wrap64; omega
  exact ⟨by omega, by omega, by omega, by omega, by omega, by omega, by omega, by omega, by omega, by omega, by omega, by omega, by omega, by omega, by omega, by omega, by omega, hd⟩
theorem LgB.on {W W' : World} {g off : Nat} {X b2 b3 b8 b9 b10 b11 : Int} (h : LgB W g off X b2 b3 b8 b9 b10 b11) (k : W.grownBy W' none) : LgB W' g off X b2 b3 b8 b9 b10 b11 :=
  ⟨keep_cell k h.c0, keep_cell k h.c2, keep_cell k h.c3, keep_cell k h.c4, keep_cell k h.c8, keep_cell k h.c9, keep_cell k h.c10, keep_cell k h.c11⟩
set_option maxRecDepth 100000 in
theorem act138 (z : Nat → Value) : actOf 138 z = { tmps := #[z 0, z 1, z 2, z 3, z 4, z 5, z 6, z 7, z 8, z 9, z 10, z 11, z 12, z 13, z 14, z 15, z 16, z 17, z 18, z 19, z 20, z 21, z 22, z 23, z 24, z 25, z 26, z 27, z 28, z 29, z 30, z 31, z 32, z 33, z 34, z 35, z 36, z 37, z 38, z 39, z 40, z 41, z 42, z 43, z 44, z 45, z 46, z 47, z 48, z 49, z 50, z 51, z 52, z 53, z 54, z 55, z 56, z 57, z 58, z 59, z 60, z 61, z 62, z 63, z 64, z 65, z 66, z 67, z 68, z 69, z 70, z 71, z 72, z 73, z 74, z 75, z 76, z 77, z 78, z 79, z 80, z 81, z 82, z 83, z 84, z 85, z 86, z 87, z 88, z 89, z 90, z 91, z 92, z 93, z 94, z 95, z 96, z 97, z 98, z 99, z 100, z 101, z 102, z 103, z 104, z 105, z 106, z 107, z 108, z 109, z 110, z 111, z 112, z 113, z 114, z 115, z 116, z 117, z 118, z 119, z 120, z 121, z 122, z 123, z 124, z 125, z 126, z 127, z 128, z 129, z 130, z 131, z 132, z 133, z 134, z 135, z 136, z 137], defers := [] } := rfl
section
set_option maxRecDepth 100000 in
set_option maxHeartbeats 4000000 in
theorem binoutLong_lib (L : BoLib) (W : World) (f : Fv) (ta : Option Addr) (tc : Nat) (ka : Option Addr) (kc : Nat) (ho : 0 ≤ f.opq ∧ f.opq < 4294967296) (ht : Su W ta f.toks.length tc f.toks) (hk : Su W ka f.keys.length kc f.keys) (x : Rv) (va : Option Addr) (vc : Nat) (hxo : x.ok) (hv : Bu W va x.val.length vc x.val) (key : ByteArray) (hkey : key.size ≤ 140737488351232) :
    Calls Try.prog 7 #[.agg (fmC f ta tc ka kc), .agg (rsC x va vc), .string key] W fun e W' => e = .returned (.bool true) ∧ Below W.heap.size W W' := by
  obtain ⟨V1, h1⟩ : ∃ V, V = W.alloc (.cells (fmC f ta tc ka kc) 26) := ⟨_, rfl⟩
  obtain ⟨V2, h2⟩ : ∃ V, V = V1.alloc (.cells (rsC x va vc) 46) := ⟨_, rfl⟩
  obtain ⟨q, hqq⟩ : ∃ q, q = W.heap.size := ⟨_, rfl⟩
  obtain ⟨p, hp⟩ : ∃ p, p = W.heap.size + 1 := ⟨_, rfl⟩
  have g1 : W.grownBy V1 none := by rw [h1]; exact World.grownBy_alloc _ _ _
  have g2 : V1.grownBy V2 none := by rw [h2]; exact World.grownBy_alloc _ _ _
  have e1 : V1.heap[q]? = some (.cells (fmC f ta tc ka kc) 26 (0, 0)) := by rw [h1, hqq]; exact World.alloc_heap_new _ _
  have e2 : V2.heap[p]? = some (.cells (rsC x va vc) 46 (0, 0)) := by
    have : p = V1.heap.size := by rw [hp, h1, World.size_alloc]
    rw [this, h2]
    exact World.alloc_heap_new _ _
  have HB : Hid (V2.heap[q]? = some (.cells (fmC f ta tc ka kc) 26 (0, 0)) ∧ V2.heap[p]? = some (.cells (rsC x va vc) 46 (0, 0)) ∧ W.grownBy V2 none) := ⟨(g2.block q (Array.getElem?_eq_some_iff.1 e1).1 (by simp)).trans e1, e2, gr_trans g1 g2⟩
  have HM := hide (fun (U : World) (g : V2.grownBy U none) => And.intro ((g.block q (Array.getElem?_eq_some_iff.1 HB.out.1).1 (by simp)).trans HB.out.1) ((g.block p (Array.getElem?_eq_some_iff.1 HB.out.2.1).1 (by simp)).trans HB.out.2.1))
  have HG := hide HB.out.2.2
  clear HB e1 e2 g1 g2
  simp only [fmC, rsC] at h1 h2 ⊢
  rw [h1] at h2
  clear h1 V1
  go_enter Try.func7, Try.ntmps7
  go_upto_region 1 with fail
  rw [← h2, ← hp, ← hqq]
  clear h2 hp hqq
  go_upto_region 2 with (go_at_call 8; refine (awake_any L).mono ?_; rintro e w2 ⟨rfl, g2⟩; replace g2 := hide g2)
  have x0 : w2.cell? ⟨p, 0, none⟩ = some (.int .i64 x.s) := cellE (HM.out _ g2.out).2 0 _ rfl
  have x1 : w2.cell? ⟨p, 1, none⟩ = some (.slice va x.val.length vc) := cellE (HM.out _ g2.out).2 1 _ rfl
  have f4 : w2.cell? ⟨q, 4, none⟩ = some (.bool f.quiet) := cellE (HM.out _ g2.out).1 4 _ rfl
  have GE := hide (gr_trans HG.out g2.out)
  by_cases hv2 : 2000 < x.val.length
  · have hi : (2000 : Int) < (x.val.length : Int) := by omega
    clear hv2 ho ht hk hxo hv
    go_wp2
    go_ret
    exact ⟨rfl, below_gr GE.out⟩
  have hi : ¬ (2000 : Int) < (x.val.length : Int) := by omega
  by_cases hk3 : 300 < key.size
  · have hj : (300 : Int) < (key.size : Int) := by omega
    clear hv2 hk3 ho ht hk hxo hv
    go_wp2
    go_ret
    exact ⟨rfl, below_gr GE.out⟩
  have hj : ¬ (300 : Int) < (key.size : Int) := by omega
  cases hqt : f.quiet with
  | true =>
    rw [hqt] at f4
    clear hv2 hk3 ho ht hk hxo hv
    go_wp2
    go_ret
    exact ⟨rfl, below_gr GE.out⟩
  | false =>
    rw [hqt] at f4
    have HC := hide (@lg_call w2 f ta tc ka kc key x va vc L ho (by omega) (by omega) (ht.on (below_gr GE.out)) (hk.on (below_gr GE.out)) hxo (hv.on (below_gr GE.out)))
    have HW := hide (@lgW_gr w2 f ta tc ka kc key x va vc)
    obtain ⟨X, K, N, HL, hc⟩ := @oneA_long f (lgC key) x (by unfold hushA; rw [hqt]; rfl) (by show key.size ≤ 65535; omega) (by omega)
    have hlk : (lgC key).key.size = key.size := rfl
    rw [hlk] at hc
    clear hlk
    replace hqt := hide hqt
    replace HL := hide HL
    generalize oneA f (lgC key) x = l at *
    have hF := (HM.out _ (gr_trans g2.out (World.grownBy_alloc w2 (lgA key) none))).1
    have hX := (HM.out _ g2.out).2
    simp only [fmC, rsC] at hF hX
    replace hF := hide hF
    have hX2 := (HM.out _ (gr_trans g2.out (gr_trans (World.grownBy_alloc w2 (lgA key) none) (World.grownBy_alloc (w2.alloc (lgA key)) (lgB w2.heap.size f ta tc ka kc) none)))).2
    simp only [rsC] at hX2
    replace hX := hide hX2
    clear hX2
    simp only [lgW, lgA, lgB, lgX] at HC
    clear ho ht hk hxo hv HM HG
    have HCC := hide hc
    clear hc
    have KS := hide hk3
    have VS := hide hv2
    clear hk3 hv2
    have XX : Hid (X ≤ 255 ∧ N ≤ 3000) := by
      have h1 := HCC.out
      have h2 := KS.out
      have h3 := VS.out
      show _ ∧ _
      omega
    go_upto_region 8 with (first
      | (refine wpList_load_row rfl 26 _ rfl q rfl _ _ _ _ (hF.out) Try.underlying26 rfl (fmE_size _ _ _ _ _) ?_)
      | (refine wpList_load_row rfl 46 _ rfl p rfl _ _ _ _ (hX.out) Try.underlying46 rfl (res_size _ _ _) ?_)
      | (go_at_call 10; go_loud (refine Calls.mono HC.out ?_; rintro e w5 ⟨a5, n5, c5, rfl, l5, b5, g5⟩; obtain ⟨g, off, rfl, hn5, b2, b3, b8, b9, b10, b11, Q1, Q2⟩ := lg_bytes HL.out b5; obtain ⟨M, hM⟩ : ∃ M : Nat, M = 24 + N := ⟨_, rfl⟩; obtain rfl : M = n5 := hM.trans hn5.symm; have LL := hide (lgL_of hM XX.out.2); have l0 := LL.out.l0; have l0' := LL.out.m0; have n24 := LL.out.n24; have c0 := Q1.c0; have G5 := hide (gr_trans GE.out (gr_trans HW.out g5)); replace x0 := hide (keep_cell (gr_trans HW.out g5) x0); replace x1 := hide (keep_cell (gr_trans HW.out g5) x1); have QQ := hide Q1; have SS := hide Q2; clear Q1 Q2 b5 g5 hn5 hM l5)))
    clear f4 HC HW HL hF hX c0 l0 l0' n24
    refine wp_region_inv (N := 138) (Sp := SpL [EqV (.slice (some ⟨g, off, none⟩) M c5), EqV (.pointer (some ⟨g, off + 8, none⟩)), EqV (.int .u8 b8), EqV (.int .i64 b8), EqV (.int .i64 (b8 * 16777216)), EqV (.slice (some ⟨g, off, none⟩) M c5), EqV (.pointer (some ⟨g, off + 9, none⟩)), EqV (.int .u8 b9), EqV (.int .i64 b9), EqV (.int .i64 (b9 * 65536)), EqV (.int .i64 (b8 * 16777216 + b9 * 65536)), EqV (.slice (some ⟨g, off, none⟩) M c5), EqV (.pointer (some ⟨g, off + 10, none⟩)), EqV (.int .u8 b10), EqV (.int .i64 b10), EqV (.int .i64 (b10 * 256)), EqV (.int .i64 (b8 * 16777216 + b9 * 65536 + b10 * 256)), EqV (.slice (some ⟨g, off, none⟩) M c5), EqV (.pointer (some ⟨g, off + 11, none⟩)), EqV (.int .u8 b11), EqV (.int .i64 b11), EqV (.int .i64 (N : Int)), EqV (.int .i64 (N : Int))]) (by kernel_rfl) (by rfl) (by kernel_rfl) (spL_mono (mono_cons (mono_eq _) (mono_cons (mono_eq _) (mono_cons (mono_eq _) (mono_cons (mono_eq _) (mono_cons (mono_eq _) (mono_cons (mono_eq _) (mono_cons (mono_eq _) (mono_cons (mono_eq _) (mono_cons (mono_eq _) (mono_cons (mono_eq _) (mono_cons (mono_eq _) (mono_cons (mono_eq _) (mono_cons (mono_eq _) (mono_cons (mono_eq _) (mono_cons (mono_eq _) (mono_cons (mono_eq _) (mono_cons (mono_eq _) (mono_cons (mono_eq _) (mono_cons (mono_eq _) (mono_cons (mono_eq _) (mono_cons (mono_eq _) (mono_cons (mono_eq _) (mono_cons (mono_eq _) (mono_nil))))))))))))))))))))))))) ?_ ?_
    · refine ⟨?_, ?_, ?_, ?_, ?_, ?_, ?_, ?_, ?_, ?_, ?_, ?_, ?_, ?_, ?_, ?_, ?_, ?_, ?_, ?_, ?_, ?_, ?_, trivial⟩
      · intro z u hg hfix dep
        have e9 : z 9 = .slice (some ⟨g, off, none⟩) M c5 := hfix 9 (by kernel_rfl)
        refine oper_value 49 rfl (v := .slice (some ⟨g, off, none⟩) M c5) (w' := u) (by rw [act138]; go_simp) ⟨_, rfl, gr_refl _ _, spL_at rfl rfl⟩
      · intro z u hg hfix dep
        have d49 : (EqV (.slice (some ⟨g, off, none⟩) M c5)) (z 49) u := dep 0 (by kernel_rfl) _ rfl
        have q49 : z 49 = (.slice (some ⟨g, off, none⟩) M c5) := d49
        have l := LL.out.l8
        have l' := LL.out.m8
        refine oper_value 50 rfl (v := .pointer (some ⟨g, off + 8, none⟩)) (w' := u) (by rw [act138]; go_simp) ⟨_, rfl, gr_refl _ _, spL_at rfl rfl⟩
      · intro z u hg hfix dep
        have d50 : (EqV (.pointer (some ⟨g, off + 8, none⟩))) (z 50) u := dep 1 (by kernel_rfl) _ rfl
        have q50 : z 50 = (.pointer (some ⟨g, off + 8, none⟩)) := d50
        have c := keep_cell hg QQ.out.c8
        refine oper_value 51 rfl (v := .int .u8 b8) (w' := u) (by rw [act138]; go_simp) ⟨_, rfl, gr_refl _ _, spL_at rfl rfl⟩
      · intro z u hg hfix dep
        have d51 : (EqV (.int .u8 b8)) (z 51) u := dep 2 (by kernel_rfl) _ rfl
        have q51 : z 51 = (.int .u8 b8) := d51
        have c := SS.out.w8
        rw [← i64_wrap] at c
        refine oper_value 52 rfl (v := .int .i64 b8) (w' := u) (by rw [act138]; go_simp) ⟨_, rfl, gr_refl _ _, spL_at rfl rfl⟩
      · intro z u hg hfix dep
        have d52 : (EqV (.int .i64 b8)) (z 52) u := dep 3 (by kernel_rfl) _ rfl
        have q52 : z 52 = (.int .i64 b8) := d52
        have c := SS.out.m8
        rw [← i64_wrap] at c
        refine oper_value 53 rfl (v := .int .i64 (b8 * 16777216)) (w' := u) (by rw [act138]; go_simp) ⟨_, rfl, gr_refl _ _, spL_at rfl rfl⟩
      · intro z u hg hfix dep
        have e9 : z 9 = .slice (some ⟨g, off, none⟩) M c5 := hfix 9 (by kernel_rfl)
        refine oper_value 54 rfl (v := .slice (some ⟨g, off, none⟩) M c5) (w' := u) (by rw [act138]; go_simp) ⟨_, rfl, gr_refl _ _, spL_at rfl rfl⟩
      · intro z u hg hfix dep
        have d54 : (EqV (.slice (some ⟨g, off, none⟩) M c5)) (z 54) u := dep 5 (by kernel_rfl) _ rfl
        have q54 : z 54 = (.slice (some ⟨g, off, none⟩) M c5) := d54
        have l := LL.out.l9
        have l' := LL.out.m9
        refine oper_value 55 rfl (v := .pointer (some ⟨g, off + 9, none⟩)) (w' := u) (by rw [act138]; go_simp) ⟨_, rfl, gr_refl _ _, spL_at rfl rfl⟩
      · intro z u hg hfix dep
        have d55 : (EqV (.pointer (some ⟨g, off + 9, none⟩))) (z 55) u := dep 6 (by kernel_rfl) _ rfl
        have q55 : z 55 = (.pointer (some ⟨g, off + 9, none⟩)) := d55
        have c := keep_cell hg QQ.out.c9
        refine oper_value 56 rfl (v := .int .u8 b9) (w' := u) (by rw [act138]; go_simp) ⟨_, rfl, gr_refl _ _, spL_at rfl rfl⟩
      · intro z u hg hfix dep
        have d56 : (EqV (.int .u8 b9)) (z 56) u := dep 7 (by kernel_rfl) _ rfl
        have q56 : z 56 = (.int .u8 b9) := d56
        have c := SS.out.w9
        rw [← i64_wrap] at c
        refine oper_value 57 rfl (v := .int .i64 b9) (w' := u) (by rw [act138]; go_simp) ⟨_, rfl, gr_refl _ _, spL_at rfl rfl⟩
      · intro z u hg hfix dep
        have d57 : (EqV (.int .i64 b9)) (z 57) u := dep 8 (by kernel_rfl) _ rfl
        have q57 : z 57 = (.int .i64 b9) := d57
        have c := SS.out.m9
        rw [← i64_wrap] at c
        refine oper_value 58 rfl (v := .int .i64 (b9 * 65536)) (w' := u) (by rw [act138]; go_simp) ⟨_, rfl, gr_refl _ _, spL_at rfl rfl⟩
      · intro z u hg hfix dep
        have d53 : (EqV (.int .i64 (b8 * 16777216))) (z 53) u := dep 4 (by kernel_rfl) _ rfl
        have q53 : z 53 = (.int .i64 (b8 * 16777216)) := d53
        have d58 : (EqV (.int .i64 (b9 * 65536))) (z 58) u := dep 9 (by kernel_rfl) _ rfl
        have q58 : z 58 = (.int .i64 (b9 * 65536)) := d58
        have c := SS.out.s8
        rw [← i64_wrap] at c
        refine oper_value 59 rfl (v := .int .i64 (b8 * 16777216 + b9 * 65536)) (w' := u) (by rw [act138]; go_simp) ⟨_, rfl, gr_refl _ _, spL_at rfl rfl⟩
      · intro z u hg hfix dep
        have e9 : z 9 = .slice (some ⟨g, off, none⟩) M c5 := hfix 9 (by kernel_rfl)
        refine oper_value 60 rfl (v := .slice (some ⟨g, off, none⟩) M c5) (w' := u) (by rw [act138]; go_simp) ⟨_, rfl, gr_refl _ _, spL_at rfl rfl⟩
      · intro z u hg hfix dep
        have d60 : (EqV (.slice (some ⟨g, off, none⟩) M c5)) (z 60) u := dep 11 (by kernel_rfl) _ rfl
        have q60 : z 60 = (.slice (some ⟨g, off, none⟩) M c5) := d60
        have l := LL.out.l10
        have l' := LL.out.m10
        refine oper_value 61 rfl (v := .pointer (some ⟨g, off + 10, none⟩)) (w' := u) (by rw [act138]; go_simp) ⟨_, rfl, gr_refl _ _, spL_at rfl rfl⟩
      · intro z u hg hfix dep
        have d61 : (EqV (.pointer (some ⟨g, off + 10, none⟩))) (z 61) u := dep 12 (by kernel_rfl) _ rfl
        have q61 : z 61 = (.pointer (some ⟨g, off + 10, none⟩)) := d61
        have c := keep_cell hg QQ.out.c10
        refine oper_value 62 rfl (v := .int .u8 b10) (w' := u) (by rw [act138]; go_simp) ⟨_, rfl, gr_refl _ _, spL_at rfl rfl⟩
      · intro z u hg hfix dep
        have d62 : (EqV (.int .u8 b10)) (z 62) u := dep 13 (by kernel_rfl) _ rfl
        have q62 : z 62 = (.int .u8 b10) := d62
        have c := SS.out.w10
        rw [← i64_wrap] at c
        refine oper_value 63 rfl (v := .int .i64 b10) (w' := u) (by rw [act138]; go_simp) ⟨_, rfl, gr_refl _ _, spL_at rfl rfl⟩
      · intro z u hg hfix dep
        have d63 : (EqV (.int .i64 b10)) (z 63) u := dep 14 (by kernel_rfl) _ rfl
        have q63 : z 63 = (.int .i64 b10) := d63
        have c := SS.out.m10
        rw [← i64_wrap] at c
        refine oper_value 64 rfl (v := .int .i64 (b10 * 256)) (w' := u) (by rw [act138]; go_simp) ⟨_, rfl, gr_refl _ _, spL_at rfl rfl⟩
      · intro z u hg hfix dep
        have d59 : (EqV (.int .i64 (b8 * 16777216 + b9 * 65536))) (z 59) u := dep 10 (by kernel_rfl) _ rfl
        have q59 : z 59 = (.int .i64 (b8 * 16777216 + b9 * 65536)) := d59
        have d64 : (EqV (.int .i64 (b10 * 256))) (z 64) u := dep 15 (by kernel_rfl) _ rfl
        have q64 : z 64 = (.int .i64 (b10 * 256)) := d64
        have c := SS.out.s9
        rw [← i64_wrap] at c
        refine oper_value 65 rfl (v := .int .i64 (b8 * 16777216 + b9 * 65536 + b10 * 256)) (w' := u) (by rw [act138]; go_simp) ⟨_, rfl, gr_refl _ _, spL_at rfl rfl⟩
      · intro z u hg hfix dep
        have e9 : z 9 = .slice (some ⟨g, off, none⟩) M c5 := hfix 9 (by kernel_rfl)
        refine oper_value 66 rfl (v := .slice (some ⟨g, off, none⟩) M c5) (w' := u) (by rw [act138]; go_simp) ⟨_, rfl, gr_refl _ _, spL_at rfl rfl⟩
      · intro z u hg hfix dep
        have d66 : (EqV (.slice (some ⟨g, off, none⟩) M c5)) (z 66) u := dep 17 (by kernel_rfl) _ rfl
        have q66 : z 66 = (.slice (some ⟨g, off, none⟩) M c5) := d66
        have l := LL.out.l11
        have l' := LL.out.m11
        refine oper_value 67 rfl (v := .pointer (some ⟨g, off + 11, none⟩)) (w' := u) (by rw [act138]; go_simp) ⟨_, rfl, gr_refl _ _, spL_at rfl rfl⟩
      · intro z u hg hfix dep
        have d67 : (EqV (.pointer (some ⟨g, off + 11, none⟩))) (z 67) u := dep 18 (by kernel_rfl) _ rfl
        have q67 : z 67 = (.pointer (some ⟨g, off + 11, none⟩)) := d67
        have c := keep_cell hg QQ.out.c11
        refine oper_value 68 rfl (v := .int .u8 b11) (w' := u) (by rw [act138]; go_simp) ⟨_, rfl, gr_refl _ _, spL_at rfl rfl⟩
      · intro z u hg hfix dep
        have d68 : (EqV (.int .u8 b11)) (z 68) u := dep 19 (by kernel_rfl) _ rfl
        have q68 : z 68 = (.int .u8 b11) := d68
        have c := SS.out.w11
        rw [← i64_wrap] at c
        refine oper_value 69 rfl (v := .int .i64 b11) (w' := u) (by rw [act138]; go_simp) ⟨_, rfl, gr_refl _ _, spL_at rfl rfl⟩
      · intro z u hg hfix dep
        have d65 : (EqV (.int .i64 (b8 * 16777216 + b9 * 65536 + b10 * 256))) (z 65) u := dep 16 (by kernel_rfl) _ rfl
        have q65 : z 65 = (.int .i64 (b8 * 16777216 + b9 * 65536 + b10 * 256)) := d65
        have d69 : (EqV (.int .i64 b11)) (z 69) u := dep 20 (by kernel_rfl) _ rfl
        have q69 : z 69 = (.int .i64 b11) := d69
        have c := SS.out.s10
        rw [← i64_wrap] at c
        refine oper_value 70 rfl (v := .int .i64 (N : Int)) (w' := u) (by rw [act138]; go_simp) ⟨_, rfl, gr_refl _ _, spL_at rfl rfl⟩
      · intro z u hg hfix dep
        have d70 : (EqV (.int .i64 (N : Int))) (z 70) u := dep 21 (by kernel_rfl) _ rfl
        have q70 : z 70 = (.int .i64 (N : Int)) := d70
        refine oper_value 10 rfl (v := .int .i64 (N : Int)) (w' := u) (by rw [act138]; go_simp) ⟨_, rfl, gr_refl _ _, spL_at rfl rfl⟩
    · intro z u hg hfix h
      have k9 : z 9 = .slice (some ⟨g, off, none⟩) M c5 := hfix 9 (by kernel_rfl)
      have k4 : z 4 = .pointer (some ⟨p, 0, none⟩) := hfix 4 (by kernel_rfl)
      have k2 : z 2 = .string key := hfix 2 (by kernel_rfl)
      have k10 : z 10 = .int .i64 (N : Int) := h 22 (by decide) _ rfl
      rw [act138, k2, k4, k9, k10]
      clear k2 k4 k9 k10 hfix h
      have G7 := hide hg
      replace QQ := hide (QQ.out.on hg)
      replace x0 := hide (keep_cell hg x0.out)
      replace x1 := hide (keep_cell hg x1.out)
      replace G5 := hide (gr_trans G5.out hg)
      clear G7 hg
      have G7 := hide (gr_refl u none)
      go_upto_region 9 with fail
      refine wp_region_inv (N := 138) (Sp := SpL [EqV (.slice (some ⟨g, off, none⟩) M c5), EqV (.pointer (some ⟨g, off + 2, none⟩)), EqV (.int .u8 b2), EqV (.int .i64 b2), EqV (.int .i64 (b2 * 256)), EqV (.slice (some ⟨g, off, none⟩) M c5), EqV (.pointer (some ⟨g, off + 3, none⟩)), EqV (.int .u8 b3), EqV (.int .i64 b3), EqV (.int .i64 (K : Int)), EqV (.int .i64 (K : Int))]) (by kernel_rfl) (by rfl) (by kernel_rfl) (spL_mono (mono_cons (mono_eq _) (mono_cons (mono_eq _) (mono_cons (mono_eq _) (mono_cons (mono_eq _) (mono_cons (mono_eq _) (mono_cons (mono_eq _) (mono_cons (mono_eq _) (mono_cons (mono_eq _) (mono_cons (mono_eq _) (mono_cons (mono_eq _) (mono_cons (mono_eq _) (mono_nil))))))))))))) ?_ ?_
      · refine ⟨?_, ?_, ?_, ?_, ?_, ?_, ?_, ?_, ?_, ?_, ?_, trivial⟩
        · intro z u hg hfix dep
          have e9 : z 9 = .slice (some ⟨g, off, none⟩) M c5 := hfix 9 (by kernel_rfl)
          refine oper_value 71 rfl (v := .slice (some ⟨g, off, none⟩) M c5) (w' := u) (by rw [act138]; go_simp) ⟨_, rfl, gr_refl _ _, spL_at rfl rfl⟩
        · intro z u hg hfix dep
          have d71 : (EqV (.slice (some ⟨g, off, none⟩) M c5)) (z 71) u := dep 0 (by kernel_rfl) _ rfl
          have q71 : z 71 = (.slice (some ⟨g, off, none⟩) M c5) := d71
          have l := LL.out.l2
          have l' := LL.out.m2
          refine oper_value 72 rfl (v := .pointer (some ⟨g, off + 2, none⟩)) (w' := u) (by rw [act138]; go_simp) ⟨_, rfl, gr_refl _ _, spL_at rfl rfl⟩
        · intro z u hg hfix dep
          have d72 : (EqV (.pointer (some ⟨g, off + 2, none⟩))) (z 72) u := dep 1 (by kernel_rfl) _ rfl
          have q72 : z 72 = (.pointer (some ⟨g, off + 2, none⟩)) := d72
          have c := keep_cell hg QQ.out.c2
          refine oper_value 73 rfl (v := .int .u8 b2) (w' := u) (by rw [act138]; go_simp) ⟨_, rfl, gr_refl _ _, spL_at rfl rfl⟩
        · intro z u hg hfix dep
          have d73 : (EqV (.int .u8 b2)) (z 73) u := dep 2 (by kernel_rfl) _ rfl
          have q73 : z 73 = (.int .u8 b2) := d73
          have c := SS.out.w2
          rw [← i64_wrap] at c
          refine oper_value 74 rfl (v := .int .i64 b2) (w' := u) (by rw [act138]; go_simp) ⟨_, rfl, gr_refl _ _, spL_at rfl rfl⟩
        · intro z u hg hfix dep
          have d74 : (EqV (.int .i64 b2)) (z 74) u := dep 3 (by kernel_rfl) _ rfl
          have q74 : z 74 = (.int .i64 b2) := d74
          have c := SS.out.m2
          rw [← i64_wrap] at c
          refine oper_value 75 rfl (v := .int .i64 (b2 * 256)) (w' := u) (by rw [act138]; go_simp) ⟨_, rfl, gr_refl _ _, spL_at rfl rfl⟩
        · intro z u hg hfix dep
          have e9 : z 9 = .slice (some ⟨g, off, none⟩) M c5 := hfix 9 (by kernel_rfl)
          refine oper_value 76 rfl (v := .slice (some ⟨g, off, none⟩) M c5) (w' := u) (by rw [act138]; go_simp) ⟨_, rfl, gr_refl _ _, spL_at rfl rfl⟩
        · intro z u hg hfix dep
          have d76 : (EqV (.slice (some ⟨g, off, none⟩) M c5)) (z 76) u := dep 5 (by kernel_rfl) _ rfl
          have q76 : z 76 = (.slice (some ⟨g, off, none⟩) M c5) := d76
          have l := LL.out.l3
          have l' := LL.out.m3
          refine oper_value 77 rfl (v := .pointer (some ⟨g, off + 3, none⟩)) (w' := u) (by rw [act138]; go_simp) ⟨_, rfl, gr_refl _ _, spL_at rfl rfl⟩
        · intro z u hg hfix dep
          have d77 : (EqV (.pointer (some ⟨g, off + 3, none⟩))) (z 77) u := dep 6 (by kernel_rfl) _ rfl
          have q77 : z 77 = (.pointer (some ⟨g, off + 3, none⟩)) := d77
          have c := keep_cell hg QQ.out.c3
          refine oper_value 78 rfl (v := .int .u8 b3) (w' := u) (by rw [act138]; go_simp) ⟨_, rfl, gr_refl _ _, spL_at rfl rfl⟩
        · intro z u hg hfix dep
          have d78 : (EqV (.int .u8 b3)) (z 78) u := dep 7 (by kernel_rfl) _ rfl
          have q78 : z 78 = (.int .u8 b3) := d78
          have c := SS.out.w3
          rw [← i64_wrap] at c
          refine oper_value 79 rfl (v := .int .i64 b3) (w' := u) (by rw [act138]; go_simp) ⟨_, rfl, gr_refl _ _, spL_at rfl rfl⟩
        · intro z u hg hfix dep
          have d75 : (EqV (.int .i64 (b2 * 256))) (z 75) u := dep 4 (by kernel_rfl) _ rfl
          have q75 : z 75 = (.int .i64 (b2 * 256)) := d75
          have d79 : (EqV (.int .i64 b3)) (z 79) u := dep 8 (by kernel_rfl) _ rfl
          have q79 : z 79 = (.int .i64 b3) := d79
          have c := SS.out.s2
          rw [← i64_wrap] at c
          refine oper_value 80 rfl (v := .int .i64 (K : Int)) (w' := u) (by rw [act138]; go_simp) ⟨_, rfl, gr_refl _ _, spL_at rfl rfl⟩
        · intro z u hg hfix dep
          have d80 : (EqV (.int .i64 (K : Int))) (z 80) u := dep 9 (by kernel_rfl) _ rfl
          have q80 : z 80 = (.int .i64 (K : Int)) := d80
          refine oper_value 11 rfl (v := .int .i64 (K : Int)) (w' := u) (by rw [act138]; go_simp) ⟨_, rfl, gr_refl _ _, spL_at rfl rfl⟩
      · intro z u hg hfix h
        have k9 : z 9 = .slice (some ⟨g, off, none⟩) M c5 := hfix 9 (by kernel_rfl)
        have k4 : z 4 = .pointer (some ⟨p, 0, none⟩) := hfix 4 (by kernel_rfl)
        have k2 : z 2 = .string key := hfix 2 (by kernel_rfl)
        have k10 : z 10 = .int .i64 (N : Int) := hfix 10 (by kernel_rfl)
        have k11 : z 11 = .int .i64 (K : Int) := h 10 (by decide) _ rfl
        rw [act138, k2, k4, k9, k10, k11]
        clear k2 k4 k9 k10 k11 hfix h
        have GG := hide (gr_trans G7.out hg)
        have y0 := keep_cell GG.out x0.out
        have y1 := keep_cell GG.out x1.out
        have y4 := keep_cell GG.out QQ.out.c4
        have G6 := hide (gr_trans G5.out GG.out)
        have l4 := LL.out.l4
        have l4' := LL.out.m4
        have nN := LL.out.d
        have w4 : wrap64 (X : Int) = (X : Int) := by have := XX.out; unfold wrap64; omega
        have hxx := XX.out
        clear QQ SS LL GG G5 x0 x1 XX
        rcases HCC.out with ⟨hs0, rfl, hN, hK⟩ | ⟨hs0, rfl, rfl, hN⟩
        · have z0 : (x.s == 0) = true := by rw [hs0]; rfl
          have t0 : wrap64 (4 + (K : Int)) = 4 + (K : Int) := by unfold wrap64; omega
          have t1 : wrap64 (4 + (K : Int) + (x.val.length : Int)) = (N : Int) := by unfold wrap64; omega
          by_cases hK0 : K = 0
          · have k0 : ((K : Int) != 0) = false := by rw [hK0]; rfl
            clear hs0 hK0 hK hN HCC hxx
            go_wp2
            go_ret
            exact ⟨by first | rfl | (simp; done), below_gr G6.out⟩
          · have k0 : ((K : Int) != 0) = true := by simpa using hK0
            have k1 : ((K : Int) != (key.size : Int)) = false := by
              have : K = key.size := by omega
              rw [this]; simp
            clear hs0 hK0 hK hN HCC hxx
            go_wp2
            go_ret
            exact ⟨by first | rfl | (simp; done), below_gr G6.out⟩
        · have z0 : (x.s == 0) = false := by rw [beq_eq_false_iff_ne]; exact hs0
          have n8 : (N : Int) ≤ 8 := by omega
          clear hs0 hN HCC hxx
          go_wp2
          go_ret
          exact ⟨by first | rfl | (simp; done), below_gr G6.out⟩
end
end Go.Proofs.Ytaafkefgpgoepaa
