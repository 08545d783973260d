/- A request of the binary dialect, put together by the statements' own helper. Conditions: extras of at most 255 bytes, a key and a value of at most 100000. -/
import Derived.Test.YtegaljpllcgaaaaBinTwo
import Derived.Test.YtegaljpllcgaaaaByteStr
namespace Go.Proofs.Ytegaljpllcgaaaa
set_option linter.unusedVariables false
open Go.RowKit Go.Shelf

/-- A row of bytes of one's own, made since w0. -/
structure Row2 (w0 w : World) (v : Value) (n : Nat) (l : List UInt8) : Prop where
  own : w.ownsRow w0.heap.size 5 1 v n (byU l)
  len : l.length = n
  gr : w0.grownBy w none
theorem Row2.up {w0 w w' : World} {v : Value} {n : Nat} {l : List UInt8} (h : Row2 w0 w v n l) (g : w.grownBy w' none) : Row2 w0 w' v n l := ⟨own_up h.own g, h.len, gr_trans h.gr g⟩
theorem Row2.bu {w0 w : World} {v : Value} {n : Nat} {l : List UInt8} (h : Row2 w0 w v n l) : ∃ a c, v = .slice a n c ∧ Bu w a n c l := by
  obtain ⟨a, c, rfl⟩ := own_shape h.own
  exact ⟨a, c, rfl, own_one h.len h.own⟩
theorem wpList_row2 {w0 w : World} {ops : Array Oper} {rest : List Oper} {o : Oper} {a : Act} {Q : Exit → Act → World → Prop} {v : Value} {n : Nat} {l : List UInt8} (R : Row2 w0 w v n l) (hgd : o.guard = none) (s x : Operand) (ho : o.op = .call { callee := .builtin .append, args := #[s, x], argTypes := #[22, 22] })
    (hs : a.eval s = v) {b : Option Addr} {len cap : Nat} {m : List UInt8} (hx : a.eval x = .slice b len cap) (B : Bu w b len cap m) (hn : n + len ≤ 100000000)
    (h : ∀ v' w', Row2 w0 w' v' (n + len) (l ++ m) → wpList Try.prog ops Q rest (a.put o.dst v') w') : wpList Try.prog ops Q (o :: rest) a w := by
  refine wpList_append_bs hgd s x ho w0.heap.size v n (byU l) hs R.own b len cap m hx B.n B.b hn R.gr.size ?_
  intro v' w' o' g' _
  refine h v' w' ⟨?_, by rw [List.length_append, R.len, B.n], gr_own R.gr g' (fun j hj => (own_at R.own hj).1)⟩
  rw [byU_two]
  exact o'
theorem wpList_row2s {w0 w : World} {ops : Array Oper} {rest : List Oper} {o : Oper} {a : Act} {Q : Exit → Act → World → Prop} {v : Value} {n : Nat} {l : List UInt8} (R : Row2 w0 w v n l) (hgd : o.guard = none) (s x : Operand) (ho : o.op = .call { callee := .builtin .append, args := #[s, x], argTypes := #[22, 9] })
    (hs : a.eval s = v) {t : ByteArray} (hx : a.eval x = .string t) (hn : n + t.size ≤ 100000000)
    (h : ∀ v' w', Row2 w0 w' v' (n + t.size) (l ++ t.data.toList) → wpList Try.prog ops Q rest (a.put o.dst v') w') : wpList Try.prog ops Q (o :: rest) a w := by
  refine wpList_append_str hgd s x ho w0.heap.size v n l hs R.own t hx hn R.gr.size ?_
  intro v' w' o' g' _
  exact h v' w' ⟨o', by rw [List.length_append, R.len]; rfl, gr_own R.gr g' (fun j hj => (own_at R.own hj).1)⟩
/-- A row that is built at once. -/
theorem row2_new (w : World) (l : List UInt8) (n : Nat) (hn : l.length = n) (hm : n ≤ maxLen) (cs : Array Value) (hc : cs = (byU l).toArray) : Row2 w (w.alloc (.cells cs 5)) (.slice (some ⟨w.heap.size, 0, none⟩) n n) n l := by
  subst hc
  exact ⟨⟨by rw [byU_len, hn, Nat.mul_one], .inr ⟨w.heap.size, n, (byU l).toArray, rfl, Nat.le_refl _, World.alloc_heap_new w _, Nat.le_refl _, hm, by rw [List.size_toArray, byU_len, hn, Nat.mul_one], by rw [Nat.mul_one, List.take_of_length_le (by rw [byU_len, hn]; exact Nat.le_refl _)]⟩⟩, hn, World.grownBy_alloc _ _ _⟩
/-- A number as bytes, by the statements' own helper. -/
theorem rput_bu (n : Nat) (hn : n < 18446744073709551616) (size : Nat) (hsz : size ≤ 8) (w : World) : Calls Try.prog 14 #[.int .u64 n, .int .i64 size] w fun e w' => ∃ g, e = .returned (.slice (some ⟨g, 0, none⟩) size size) ∧ Bu w' (some ⟨g, 0, none⟩) size size (byL (be n size)) ∧ w.grownBy w' none := by
  refine (refPut_any n hn size hsz w).mono fun e w' ⟨h1, h2, h3⟩ => ?_
  exact ⟨_, h1, own_u (be_byt _ _) (by simp [be]) h2, gr_of_below h3⟩
/-- A request of its parts. -/
def packL (p : UInt8) (x key v : List UInt8) (cas opq : Nat) : List UInt8 :=
  [128, p] ++ byL (be key.length 2) ++ [UInt8.ofNat x.length] ++ [0, 0, 0] ++ byL (be (x.length + key.length + v.length) 4) ++ byL (be opq 4) ++ byL (be cas 8) ++ x ++ key ++ v
theorem u8_id {p : UInt8} {c : Int} (hp : (p.toNat : Int) = c) : IntKind.u8.wrap c = c := by
  have := UInt8.toNat_lt p
  rw [IntKind.wrap_u8]
  omega
theorem u64_nat {n : Nat} (h : n < 18446744073709551616) : IntKind.u64.wrap (n : Int) = (n : Int) := by
  rw [IntKind.wrap_u64]
  omega
theorem u8_nat {n : Nat} (h : n ≤ 255) : IntKind.u8.wrap (n : Int) = (n : Int) := by
  rw [IntKind.wrap_u8]
  omega
theorem w64_nat {n : Nat} (h : n ≤ 1000000) : wrap64 (n : Int) = (n : Int) := by
  unfold wrap64
  omega
theorem sum_ok {x k v : Nat} (x1 : x ≤ 255) (k1 : k ≤ 100000) (v1 : v ≤ 100000) : IntKind.u64.wrap (k : Int) = (k : Int) ∧ IntKind.u8.wrap (x : Int) = (x : Int) ∧ wrap64 ((x : Int) + (k : Int)) = (x : Int) + (k : Int) ∧ wrap64 ((x : Int) + (k : Int) + (v : Int)) = (x : Int) + (k : Int) + (v : Int) ∧ IntKind.u64.wrap ((x : Int) + (k : Int) + (v : Int)) = (x : Int) + (k : Int) + (v : Int) := by
  have a1 := w64_nat (n := x + k) (by omega)
  have a2 := w64_nat (n := x + k + v) (by omega)
  have a3 := u64_nat (n := x + k + v) (by omega)
  rw [Int.natCast_add] at a1
  rw [Int.natCast_add, Int.natCast_add] at a2 a3
  exact ⟨u64_nat (by omega), u8_nat x1, a1, a2, a3⟩
section
variable {w : World}
set_option maxRecDepth 100000 in
set_option maxHeartbeats 4000000 in
theorem packet_any {c : Int} {p : UInt8} {x v : List UInt8} {key : ByteArray} {xa va : Option Addr} {xn xc vn vc : Nat} {cas opq : Nat} (hp : (p.toNat : Int) = c) (hx : Bu w xa xn xc x) (hv : Bu w va vn vc v) (x1 : xn ≤ 255) (k1 : key.size ≤ 100000) (v1 : vn ≤ 100000) (hc : cas < 18446744073709551616) (ho : opq < 4294967296) :
    Calls Try.prog 15 #[.int .i64 c, .slice xa xn xc, .string key, .slice va vn vc, .int .u64 cas, .int .u32 opq] w fun e w' => ∃ a n cap, e = .returned (.slice a n cap) ∧ n = 24 + xn + key.size + vn ∧ Bu w' a n cap (packL p x key.data.toList v cas opq) ∧ w.grownBy w' none := by
  have Hk : key.size < 18446744073709551616 := Nat.lt_of_le_of_lt k1 (by decide)
  have Hs : xn + key.size + vn < 18446744073709551616 := by omega
  have Ho : opq < 18446744073709551616 := Nat.lt_trans ho (by decide)
  have Hx : xn < 256 := Nat.lt_succ_of_le x1
  have Ha : 24 + xn ≤ 100000000 ∧ 24 + xn + key.size ≤ 100000000 ∧ 24 + xn + key.size + vn ≤ 100000000 := by omega
  have cw : IntKind.u8.wrap c = c := u8_id hp
  obtain ⟨e1, e2, e3, e4, e5⟩ := sum_ok x1 k1 v1
  have e6 := u64_nat (n := opq) Ho
  have HK := hide (fun W => rput_bu key.size Hk 2 (by decide) W)
  have HL : Hid (∀ W, Calls Try.prog 14 #[.int .u64 ((xn : Int) + (key.size : Int) + (vn : Int)), .int .i64 4] W fun e w' => ∃ g, e = .returned (.slice (some ⟨g, 0, none⟩) 4 4) ∧ Bu w' (some ⟨g, 0, none⟩) 4 4 (byL (be (xn + key.size + vn) 4)) ∧ W.grownBy w' none) := fun W => by
    have h := rput_bu (xn + key.size + vn) Hs 4 (by decide) W
    rw [Int.natCast_add, Int.natCast_add] at h
    exact h
  have HO := hide (fun W => rput_bu opq Ho 4 (by decide) W)
  have HC := hide (fun W => rput_bu cas hc 8 (by decide) W)
  have R1 : Hid (Row2 w (w.alloc (.cells #[.int .u8 128, .int .u8 c] 5)) (.slice (some ⟨w.heap.size, 0, none⟩) 2 2) 2 [128, p]) := row2_new w [128, p] 2 rfl (by decide) _ (by rw [← hp]; rfl)
  have HX := hide (fun (W : World) (g : w.grownBy W none) => hx.on (below_gr g))
  have HV := hide (fun (W : World) (g : w.grownBy W none) => hv.on (below_gr g))
  have LX : Hid (UInt8.ofNat xn = UInt8.ofNat x.length) := by show _ = _; rw [hx.n]
  have T1 : Hid (∀ W : World, Bu (W.alloc (.cells #[.int .u8 (xn : Int)] 5)) (some ⟨W.heap.size, 0, none⟩) 1 1 [UInt8.ofNat xn]) := fun W => by
    have := room_u (n := 1) W [UInt8.ofNat xn] rfl (by decide)
    rw [show (byU [UInt8.ofNat xn]).toArray = #[.int .u8 (xn : Int)] from by
      unfold byU byV ints
      simp only [List.map_cons, List.map_nil]
      rw [UInt8.toNat_ofNat', Nat.mod_eq_of_lt Hx]] at this
    exact this
  have T3 : Hid (∀ W : World, Bu (W.alloc (.cells #[.int .u8 0, .int .u8 0, .int .u8 0] 5)) (some ⟨W.heap.size, 0, none⟩) 3 3 [0, 0, 0]) := fun W => room_u (n := 3) W [0, 0, 0] rfl (by decide)
  have B1 := hide Ha
  have XE : Hid (x.length = xn ∧ v.length = vn) := ⟨hx.n, hv.n⟩
  clear hp hx hv x1 k1 v1 hc ho Hk Hs Ho Hx Ha
  go_enter Try.func15, Try.ntmps15
  go_wp2_with (first
    | (have t := R1; clear t; go_at_call 14; refine (HK.out _).mono ?_; rintro e w2 ⟨g2, rfl, b2, q2⟩; have R2 := hide (R1.out.up q2); replace b2 := hide b2; clear R1 q2 HK)
    | (have t := R2; clear t; at_builtin; refine wpList_row2 R2.out rfl _ _ rfl rfl rfl b2.out (by decide) ?_; intro v3 w3 R3; replace R3 := hide R3; clear R2 b2)
    | (have t := R3; clear t; at_builtin; refine wpList_row2 (R3.out.up (World.grownBy_alloc _ _ none)) rfl _ _ rfl rfl rfl (T1.out w3) (by decide) ?_; intro v4 w4 R4; replace R4 := hide R4; clear R3 T1)
    | (have t := R4; clear t; at_builtin; refine wpList_row2 (R4.out.up (World.grownBy_alloc _ _ none)) rfl _ _ rfl rfl rfl (T3.out w4) (by decide) ?_; intro v5 w5 R5; replace R5 := hide R5; clear R4 T3)
    | (have t := R5; clear t; go_at_call 14; refine (HL.out _).mono ?_; rintro e w6 ⟨g6, rfl, b6, q6⟩; have R6 := hide (R5.out.up q6); replace b6 := hide b6; clear R5 q6 HL)
    | (have t := R6; clear t; at_builtin; refine wpList_row2 R6.out rfl _ _ rfl rfl rfl b6.out (by decide) ?_; intro v7 w7 R7; replace R7 := hide R7; clear R6 b6)
    | (have t := R7; clear t; go_at_call 14; refine (HO.out _).mono ?_; rintro e w8 ⟨g8, rfl, b8, q8⟩; have R8 := hide (R7.out.up q8); replace b8 := hide b8; clear R7 q8 HO)
    | (have t := R8; clear t; at_builtin; refine wpList_row2 R8.out rfl _ _ rfl rfl rfl b8.out (by decide) ?_; intro v9 w9 R9; replace R9 := hide R9; clear R8 b8)
    | (have t := R9; clear t; go_at_call 14; refine (HC.out _).mono ?_; rintro e w10 ⟨g10, rfl, b10, q10⟩; have R10 := hide (R9.out.up q10); replace b10 := hide b10; clear R9 q10 HC)
    | (have t := R10; clear t; at_builtin; refine wpList_row2 R10.out rfl _ _ rfl rfl rfl b10.out (by decide) ?_; intro v11 w11 R11; replace R11 := hide R11; clear R10 b10)
    | (have t := R11; clear t; at_builtin; refine wpList_row2 R11.out rfl _ _ rfl rfl rfl (HX.out _ R11.out.gr) B1.out.1 ?_; intro v12 w12 R12; replace R12 := hide R12; clear R11 HX)
    | (have t := R12; clear t; at_builtin; refine wpList_row2s R12.out rfl _ _ rfl rfl rfl B1.out.2.1 ?_; intro v13 w13 R13; replace R13 := hide R13; clear R12)
    | (have t := R13; clear t; at_builtin; refine wpList_row2 R13.out rfl _ _ rfl rfl rfl (HV.out _ R13.out.gr) B1.out.2.2 ?_; intro v14 w14 R14; replace R14 := hide R14; clear R13 HV))
  go_ret
  obtain ⟨a, cap, hva, hb⟩ := R14.out.bu
  refine ⟨a, _, cap, congrArg Ending.returned hva, rfl, ?_, R14.out.gr⟩
  unfold packL
  rw [XE.out.1, XE.out.2]
  exact hb
end
end Go.Proofs.Ytegaljpllcgaaaa
