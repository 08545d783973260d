/- Rows of bytes that grow by append; numbers as bytes. Conditions: appends of at most 100000000 bytes. -/
import Derived.Test.YtaafkefgpgoepaaPut
import Derived.Test.YtaafkefgpgoepaaByteStr
namespace Go.Proofs.Ytaafkefgpgoepaa
set_option linter.unusedVariables false
open Go.RowKit

/-- Numbers as bytes. -/
def byL (zs : List Int) : List UInt8 := zs.map fun z => UInt8.ofNat z.toNat
theorem ints_byL : ∀ {zs : List Int}, Byt zs → ints (byL zs) = zs
  | [], _ => rfl
  | z :: zs, h => by
    have h1 := h z (by simp)
    have h2 : ints (byL zs) = zs := ints_byL fun y hy => h y (by simp [hy])
    show (((UInt8.ofNat z.toNat).toNat : Int)) :: ints (byL zs) = z :: zs
    have h3 : (UInt8.ofNat z.toNat).toNat = z.toNat % 256 := by first | exact UInt8.toNat_ofNat' | simp [UInt8.toNat_ofNat'] | rfl
    rw [h2, h3]
    congr 1
    omega
theorem strOf_byL (zs : List Int) : strOf zs = ⟨(byL zs).toArray⟩ := rfl
theorem room_u {n : Nat} (w : World) (l : List UInt8) (hn : l.length = n) (hm : n ≤ maxLen) : Bu (w.alloc (.cells (byU l).toArray 5)) (some ⟨w.heap.size, 0, none⟩) n n l := by
  have h : ValAt w.heap.size (w.alloc (.cells (byU l).toArray 5)) (some ⟨w.heap.size, 0, none⟩) n l := by
    unfold ValAt
    rw [hn]
    exact ⟨by rw [byU_len, hn, Nat.mul_one], .inr ⟨w.heap.size, n, (byU l).toArray, rfl, Nat.le_refl _, World.alloc_heap_new w _, Nat.le_refl _, hm, by rw [List.size_toArray, byU_len, hn, Nat.mul_one], by rw [Nat.mul_one, List.take_of_length_le (by rw [byU_len, hn]; exact Nat.le_refl _)]⟩⟩
  have := h.bu
  rwa [hn] at this
theorem own_u {W : World} {g n : Nat} {zs : List Int} (hb : Byt zs) (hn : zs.length = n) (h : W.ownsRow g 5 1 (.slice (some ⟨g, 0, none⟩) n n) n (zs.map (Value.int .u8))) : Bu W (some ⟨g, 0, none⟩) n n (byL zs) := by
  have hl : (byL zs).length = n := by unfold byL; rw [List.length_map, hn]
  have h2 : ValAt g W (some ⟨g, 0, none⟩) n (byL zs) := by
    unfold ValAt byU byV
    rw [hl, ints_byL hb]
    exact h
  have := h2.bu
  rwa [hl] at this
theorem be_byt (n size : Nat) : Byt (be n size) := by
  intro z hz
  unfold be at hz
  obtain ⟨i, _, rfl⟩ := List.mem_map.1 hz
  omega
theorem byU_two (u v : List UInt8) : byU (u ++ v) = byU u ++ byU v := by unfold byU byV ints; simp
theorem own_one {n0 n c : Nat} {w : World} {a : Option Addr} {u : List UInt8} (hu : u.length = n) (h : w.ownsRow n0 5 1 (.slice a n c) n ([] ++ byU u)) : Bu w a n c u := by
  have q : ValAt n0 w a c u := by
    unfold ValAt
    rw [hu]
    exact h
  have := q.bu
  rw [hu] at this
  exact this
theorem own_two {n0 n m c : Nat} {w : World} {a : Option Addr} {u v : List UInt8} (hu : u.length = n) (hv : v.length = m) (h : w.ownsRow n0 5 1 (.slice a (n + m) c) (n + m) ([] ++ byU u ++ byU v)) : Bu w a (n + m) c (u ++ v) := by
  have hl : (u ++ v).length = n + m := by rw [List.length_append, hu, hv]
  have q : ValAt n0 w a c (u ++ v) := by
    unfold ValAt
    rw [hl, byU_two]
    exact h
  have := q.bu
  rw [hl] at this
  exact this
theorem gr_own {a b c : World} {row : Option Nat} (h : a.grownBy b none) (k : b.grownBy c row) (hr : ∀ n, row = some n → a.heap.size ≤ n) : a.grownBy c none :=
  ⟨k.1.trans h.1, k.2.trans h.2, k.3.trans h.3, Nat.le_trans h.4 k.4, fun i hi _ => (k.5 i (Nat.lt_of_lt_of_le hi h.4) (fun e => by have := hr i e.symm; omega)).trans (h.5 i hi (by simp))⟩
/-- A row of bytes of one's own, made since w0. -/
structure Row2 (w0 w : World) (v : Value) (n : Nat) (l : List UInt8) : Prop where
  own : w.ownsRow w0.heap.size 5 1 v n (byU l)
  len : l.length = n
  gr : w0.grownBy w none
theorem Row2.up {w0 w w' : World} {v : Value} {n : Nat} {l : List UInt8} (h : Row2 w0 w v n l) (g : w.grownBy w' none) : Row2 w0 w' v n l := ⟨own_up h.own g, h.len, gr_trans h.gr g⟩
theorem Row2.bu {w0 w : World} {v : Value} {n : Nat} {l : List UInt8} (h : Row2 w0 w v n l) : ∃ a c, v = .slice a n c ∧ Bu w a n c l := by
  obtain ⟨a, c, rfl⟩ := own_shape h.own
  exact ⟨a, c, rfl, own_one h.len h.own⟩
theorem wpList_row2 {w0 w : World} {ops : Array Oper} {rest : List Oper} {o : Oper} {a : Act} {Q : Exit → Act → World → Prop} {v : Value} {n : Nat} {l : List UInt8} (R : Row2 w0 w v n l) (hgd : o.guard = none) (s x : Operand) (ho : o.op = .call { callee := .builtin .append, args := #[s, x], argTypes := #[32, 32] })
    (hs : a.eval s = v) {b : Option Addr} {len cap : Nat} {m : List UInt8} (hx : a.eval x = .slice b len cap) (B : Bu w b len cap m) (hn : n + len ≤ 100000000)
    (h : ∀ v' w', Row2 w0 w' v' (n + len) (l ++ m) → wpList Try.prog ops Q rest (a.put o.dst v') w') : wpList Try.prog ops Q (o :: rest) a w := by
  refine wpList_append_bs hgd s x ho w0.heap.size v n (byU l) hs R.own b len cap m hx B.n B.b hn R.gr.size ?_
  intro v' w' o' g' _
  refine h v' w' ⟨?_, by rw [List.length_append, R.len, B.n], gr_own R.gr g' (fun j hj => (own_at R.own hj).1)⟩
  rw [byU_two]
  exact o'
theorem wpList_row2s {w0 w : World} {ops : Array Oper} {rest : List Oper} {o : Oper} {a : Act} {Q : Exit → Act → World → Prop} {v : Value} {n : Nat} {l : List UInt8} (R : Row2 w0 w v n l) (hgd : o.guard = none) (s x : Operand) (ho : o.op = .call { callee := .builtin .append, args := #[s, x], argTypes := #[32, 9] })
    (hs : a.eval s = v) {t : ByteArray} (hx : a.eval x = .string t) (hn : n + t.size ≤ 100000000)
    (h : ∀ v' w', Row2 w0 w' v' (n + t.size) (l ++ t.data.toList) → wpList Try.prog ops Q rest (a.put o.dst v') w') : wpList Try.prog ops Q (o :: rest) a w := by
  refine wpList_append_str hgd s x ho w0.heap.size v n l hs R.own t hx hn R.gr.size ?_
  intro v' w' o' g' _
  exact h v' w' ⟨o', by rw [List.length_append, R.len]; rfl, gr_own R.gr g' (fun j hj => (own_at R.own hj).1)⟩
/-- A row that is built at once. -/
theorem row2_new (w : World) (l : List UInt8) (n : Nat) (hn : l.length = n) (hm : n ≤ maxLen) (cs : Array Value) (hc : cs = (byU l).toArray) : Row2 w (w.alloc (.cells cs 5)) (.slice (some ⟨w.heap.size, 0, none⟩) n n) n l := by
  subst hc
  exact ⟨⟨by rw [byU_len, hn, Nat.mul_one], .inr ⟨w.heap.size, n, (byU l).toArray, rfl, Nat.le_refl _, World.alloc_heap_new w _, Nat.le_refl _, hm, by rw [List.size_toArray, byU_len, hn, Nat.mul_one], by rw [Nat.mul_one, List.take_of_length_le (by rw [byU_len, hn]; exact Nat.le_refl _)]⟩⟩, hn, World.grownBy_alloc _ _ _⟩
theorem u8_id {p : UInt8} {c : Int} (hp : (p.toNat : Int) = c) : IntKind.u8.wrap c = c := by
  have := UInt8.toNat_lt p
  rw [IntKind.wrap_u8]
  omega
theorem u64_nat {n : Nat} (h : n < 18446744073709551616) : IntKind.u64.wrap (n : Int) = (n : Int) := by
  rw [IntKind.wrap_u64]
  omega
theorem u8_nat {n : Nat} (h : n ≤ 255) : IntKind.u8.wrap (n : Int) = (n : Int) := by
  rw [IntKind.wrap_u8]
  omega
theorem w64_nat {n : Nat} (h : n ≤ 1000000) : wrap64 (n : Int) = (n : Int) := by
  unfold wrap64
  omega
theorem sum_ok {x k v : Nat} (x1 : x ≤ 255) (k1 : k ≤ 100000) (v1 : v ≤ 100000) : IntKind.u64.wrap (k : Int) = (k : Int) ∧ IntKind.u8.wrap (x : Int) = (x : Int) ∧ wrap64 ((x : Int) + (k : Int)) = (x : Int) + (k : Int) ∧ wrap64 ((x : Int) + (k : Int) + (v : Int)) = (x : Int) + (k : Int) + (v : Int) ∧ IntKind.u64.wrap ((x : Int) + (k : Int) + (v : Int)) = (x : Int) + (k : Int) + (v : Int) := by
  have a1 := w64_nat (n := x + k) (by omega)
  have a2 := w64_nat (n := x + k + v) (by omega)
  have a3 := u64_nat (n := x + k + v) (by omega)
  rw [Int.natCast_add] at a1
  rw [Int.natCast_add, Int.natCast_add] at a2 a3
  exact ⟨u64_nat (by omega), u8_nat x1, a1, a2, a3⟩
theorem drop_len {a b : List UInt8} {n : Nat} (h : a.length = n) : (a ++ b).drop n = b := by rw [← h, List.drop_left]
theorem take_len {a b : List UInt8} {n : Nat} (h : a.length = n) : (a ++ b).take n = a := by rw [← h, List.take_left' rfl]
theorem bu_nil (w : World) : Bu w none 0 0 [] := ⟨rfl, .inl ⟨rfl, rfl, fun _ => rfl⟩, Nat.le_refl _, Nat.zero_le _⟩
theorem lit_bu (w : World) (l : List UInt8) (fz : Nat × Nat) (h1 : 1 ≤ l.length) (h2 : l.length ≤ 1000) : Bu (w.alloc (.cells (byU l).toArray 5 fz)) (some ⟨w.heap.size, 0, none⟩) l.length l.length l := by
  refine ⟨rfl, .inr ⟨w.heap.size, 0, rfl, h1, Nat.le_refl _, ints_len l, ints_byt l, fun i hi => ?_, by rw [World.size_alloc]; exact Nat.lt_succ_self _⟩, Nat.le_refl _, by unfold maxLen; omega⟩
  unfold World.cell?
  rw [World.alloc_heap_new]
  have hu := byU_get hi
  simpa using hu
end Go.Proofs.Ytaafkefgpgoepaa
