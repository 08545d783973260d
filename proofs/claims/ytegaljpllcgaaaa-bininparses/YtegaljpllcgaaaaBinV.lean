/- Requests of the binary dialect as values, and what a head tells. Conditions: none. -/
import Derived.Test.YtegaljpllcgaaaaBinM
import Derived.Test.YtegaljpllcgaaaaPut
namespace Go.Proofs.Ytegaljpllcgaaaa
set_option linter.unusedVariables false
open Go.RowKit

/-- A part of bytes. -/
theorem Bu.part {w : World} {g off L c : Nat} {l : List UInt8} (h : Bu w (some ⟨g, off, none⟩) L c l) (i m : Nat) (hi : i + m ≤ L) : Bu w (some ⟨g, off + i, none⟩) m (c - i) ((l.drop i).take m) := by
  have hc := h.c
  have hm := h.m
  refine ⟨by rw [List.length_take, List.length_drop, h.n]; omega, ?_, by omega, by omega⟩
  by_cases h0 : m = 0
  · exact .inl ⟨h0, by rw [h0]; rfl, fun e => by cases e⟩
  · rcases h.b with ⟨h4, _, _⟩ | ⟨b, off', r⟩
    · omega
    · obtain ⟨rfl, rfl⟩ : g = b ∧ off = off' := by have := r.at_; cases this; exact ⟨rfl, rfl⟩
      refine .inr ⟨g, off + i, rfl, by omega, by omega, by rw [ints_len, List.length_take, List.length_drop, h.n]; omega, ints_byt _, fun k hk => ?_, r.old⟩
      have := r.cell (i + k) (by omega)
      rw [← Nat.add_assoc] at this
      rw [this, getD_take _ hk, getD_cut]
theorem numB_four {l : List UInt8} (h : l.length = 4) : numB l < 4294967296 := by
  match l, h with
  | [a, b, c, d], _ =>
    have h1 := UInt8.toNat_lt a
    have h2 := UInt8.toNat_lt b
    have h3 := UInt8.toNat_lt c
    have h4 := UInt8.toNat_lt d
    simp only [numB, List.foldl_cons, List.foldl_nil]
    omega
theorem u32_id {z : Int} (h0 : 0 ≤ z) (h1 : z < 4294967296) : IntKind.u32.wrap z = z := by
  simp only [IntKind.wrap, IntKind.signed, IntKind.bits, Bool.false_and, Bool.false_eq_true, if_false]
  omega
theorem i64_id {z : Int} (h0 : 0 ≤ z) (h1 : z < 4294967296) : IntKind.i64.wrap z = z := by
  rw [IntKind.wrap_i64]
  omega
/-- The command of a row, with its extras. -/
def cmdB (r : R5) (x : List UInt8) : Cv :=
  if r.ext = 8 then ⟨r.op, ⟨#[]⟩, [], numB (x.take 4), numB ((x.drop 4).take 4), 0, 0, 0, false, false⟩
  else if r.ext = 20 then ⟨r.op, ⟨#[]⟩, [], 0, if numB ((x.drop 16).take 4) = 4294967295 then 0 else numB ((x.drop 16).take 4), 0, numB (x.take 8), numB ((x.drop 8).take 8), decide (numB ((x.drop 16).take 4) ≠ 4294967295), false⟩
  else if x.length = 4 then ⟨r.op, ⟨#[]⟩, [], 0, numB x, 0, 0, 0, false, false⟩
  else ⟨r.op, ⟨#[]⟩, [], 0, 0, 0, 0, 0, false, false⟩
/-- The four bytes of a number that is handed back. -/
def opq4 (o : Int) : List Int := [o / 16777216 % 256, o / 65536 % 256, o / 256 % 256, o % 256]
theorem be_four (n : Nat) : be n 4 = opq4 n := by
  simp [be, opq4, List.range_succ]
/-- The reply's bytes. -/
def faultZ (c s o : Int) : List Int := [129, c % 256, 0, 0, 0, 0, wrap64 (s.tdiv 256) % 256, s % 256, 0, 0, 0, 0] ++ opq4 o ++ [0, 0, 0, 0, 0, 0, 0, 0]
theorem faultZ_byt (c s o : Int) : Byt (faultZ c s o) := by
  intro z hz
  simp only [faultZ, opq4, List.mem_append, List.mem_cons, List.not_mem_nil, or_false] at hz
  omega
/-- No request: more must come, or it is over. -/
def bareB (e : Int) : Sv := ⟨noQ, ⟨#[]⟩, 0, 0, false, e⟩
/-- No request: the reply of a status. -/
def faultB (code s o used : Int) : Sv := ⟨noQ, strOf (faultZ code s o), used, 0, false, 2⟩
/-- The number of n bytes from i on. -/
def getB (b : List UInt8) (i n : Nat) : Int := numB ((b.drop i).take n)
/-- A step that is answered. -/
def BinE (s : Sv) (w : World) (e : Ending) (w' : World) : Prop := ∃ cs, e = .returned (.agg cs) ∧ StepAt w' s cs ∧ w.grownBy w' none
/-- The result's block. -/
theorem binE_ret {fn : Func} {w W : World} {g : Nat} {s : Sv} {ca ta ka : Option Addr} {cc tc kc : Nat} {tmps : Array Value} {p : Tmp} (hf : fn.results = #[.cell p 34]) (hb : W.heap[g]? = some (.cells (stC s ca cc ta tc ka kc) 34 (0, 0))) (h4 : tmps.getD p undef = .pointer (some ⟨g, 0, none⟩)) (hq : QAt W s.req ca cc ta tc ka kc) (hg : w.grownBy W none) :
    bodyPost Try.prog fn (BinE s w) .ret { tmps := tmps, defers := [] } W :=
  bodyPost_ret (results_cell_row hf tmps W g 34 (stC s ca cc ta tc ka kc) (0, 0) _ h4 hb Try.underlying34 rfl (step_size _ _ _ _ _ _ _)) rfl ⟨_, rfl, ⟨ca, cc, ta, tc, ka, kc, rfl, hq⟩, hg⟩
theorem first_byte {w : World} {g off len cap : Nat} {b : List UInt8} (hB : Bu w (some ⟨g, off, none⟩) len cap b) (i : Nat) (hi : i < b.length) : w.cell? ⟨g, off + i, none⟩ = some (.int .u8 ((b[i]).toNat : Int)) := by
  rcases hB.b with ⟨h, _, _⟩ | ⟨b', off', r⟩
  · have := hB.n; omega
  · obtain ⟨rfl, rfl⟩ : g = b' ∧ off = off' := by have := r.at_; cases this; exact ⟨rfl, rfl⟩
    rw [r.cell i (by have := hB.n; omega), getD_ints b i hi]
theorem ext_bd (code : Int) : 0 ≤ (ofN code).ext ∧ (ofN code).ext ≤ 20 := by
  unfold ofN rowB extB
  simp only []
  repeat' split
  all_goals omega
theorem numB_two {l : List UInt8} (h : l.length = 2) : numB l ≤ 65535 := by
  match l, h with
  | [a, b], _ =>
    have h1 := UInt8.toNat_lt a
    have h2 := UInt8.toNat_lt b
    simp only [numB, List.foldl_cons, List.foldl_nil]
    omega
/-- The rows of the table and their extras. -/
theorem ext_of (c : Int) : (ofN c).ext = 0 ∨ (ofN c).ext = 4 ∨ (ofN c).ext = 8 ∨ (ofN c).ext = 20 := by
  unfold ofN rowB extB
  simp only []
  repeat' split
  all_goals simp
theorem flush_ext {c : Int} (h0 : 0 ≤ c) (h1 : c ≤ 255) (h : (ofN c).op = 13) : (ofN c).ext = 0 := by
  have hc := loudN_bd h0 h1
  unfold ofN rowB at *
  simp only [] at *
  generalize (loudN c).1 = d at *
  unfold opB at h
  unfold extB
  split at h
  · obtain ⟨n, rfl⟩ : ∃ n : Nat, d = (n : Int) := ⟨d.toNat, by omega⟩
    have hn : n < 16 := by omega
    simp only [Int.toNat_natCast] at h
    rw [if_neg, if_neg, if_neg]
    · omega
    · intro hd
      have : n = 5 ∨ n = 6 := by omega
      rcases this with rfl | rfl <;> simp [opsL] at h
    · intro hd
      have : n = 1 ∨ n = 2 ∨ n = 3 := by omega
      rcases this with rfl | rfl | rfl <;> simp [opsL] at h
  · split at h
    · omega
    · split at h <;> omega
/-- What a head without a fault tells. -/
structure FineN (r : R5) (x k l : Int) : Prop where
  op : 0 ≤ r.op
  fit : x + k ≤ l
  ext : r.op = 13 ∧ (x = 0 ∨ x = 4) ∨ r.op ≠ 13 ∧ x = r.ext
  val : r.val = false → x + k = l
  key : r.key = false → k = 0
  keyl : r.key = true → 1 ≤ k ∧ k ≤ 250
  vall : l - x - k ≤ 1000
theorem four_ifs {a b c d : Prop} [Decidable a] [Decidable b] [Decidable c] [Decidable d] (h : (if a then (129 : Int) else if b then 4 else if c then 4 else if d then 3 else 0) = 0) : ¬ a ∧ ¬ b ∧ ¬ c ∧ ¬ d := by
  by_cases ha : a
  · rw [if_pos ha] at h; omega
  · rw [if_neg ha] at h
    by_cases hb : b
    · rw [if_pos hb] at h; omega
    · rw [if_neg hb] at h
      by_cases hc : c
      · rw [if_pos hc] at h; omega
      · rw [if_neg hc] at h
        by_cases hd : d
        · rw [if_pos hd] at h; omega
        · exact ⟨ha, hb, hc, hd⟩
theorem fine_of {r : R5} {x k l : Int} (k0 : 0 ≤ k) (h : statusN r x k l = 0) : FineN r x k l := by
  unfold statusN at h
  obtain ⟨h1, h2, h3, h4⟩ := four_ifs h
  rw [not_or, not_or, not_or] at h2
  obtain ⟨a1, a2, a3, a4⟩ := h2
  refine ⟨by omega, by omega, ?_, fun hv => ?_, fun hk => ?_, fun hk => ?_, by omega⟩
  · by_cases h5 : r.op = 13
    · rw [if_pos h5] at a2
      exact .inl ⟨h5, by omega⟩
    · rw [if_neg h5] at a2
      exact .inr ⟨h5, by omega⟩
  · have : ¬ (x + k < l) := fun h => a3 ⟨hv, h⟩
    omega
  · have : ¬ (0 < k) := fun h => a4 ⟨hk, h⟩
    omega
  · have : ¬ (k < 1 ∨ 250 < k) := fun h => h3 ⟨hk, h⟩
    omega
theorem fine_ext {c x k l : Int} {m : Nat} (h0 : 0 ≤ c) (h1 : c ≤ 255) (h : FineN (ofN c) x k l) (hm : x = (m : Int)) : m = 0 ∧ (ofN c).ext ≠ 8 ∧ (ofN c).ext ≠ 20 ∨ m = 4 ∧ (ofN c).ext ≠ 8 ∧ (ofN c).ext ≠ 20 ∨ m = 8 ∧ (ofN c).ext = 8 ∨ m = 20 ∧ (ofN c).ext = 20 := by
  rcases h.ext with ⟨h2, h3⟩ | ⟨h2, h3⟩
  · have := flush_ext h0 h1 h2
    omega
  · have := ext_of c
    omega
/-- The command of a request: its row's, with CAS, key and value. -/
def cmdQ (r : R5) (b : List UInt8) (x k v : Nat) : Cv :=
  { cmdB r ((b.drop 24).take x) with cas := getB b 16 8, key := ⟨((b.drop (24 + x)).take k).toArray⟩, val := if r.val then (b.drop (24 + x + k)).take v else [] }
/-- How it was said. -/
def formQ (c o : Int) (q : Bool) (key : ByteArray) (k : Nat) : Fv := ⟨2, ⟨#[]⟩, c, o, q, false, ⟨#[]⟩, [], if k = 0 then [] else [key], false⟩
/-- A request. -/
def reqB (c o : Int) (b : List UInt8) (x k v : Nat) : Sv := ⟨⟨[cmdQ (ofN c) b x k v], formQ c o (ofN c).quiet ⟨((b.drop (24 + x)).take k).toArray⟩ k⟩, ⟨#[]⟩, 24 + ((x + k + v : Nat) : Int), 0, false, 0⟩
end Go.Proofs.Ytegaljpllcgaaaa
