/- The two requests of BininNumbers. Conditions: none. -/
import Derived.Test.YtegaljpllcgaaaaBinPackM
namespace Go.Proofs.Ytegaljpllcgaaaa
set_option linter.unusedVariables false
open Go.RowKit

def numA (delta initial exp cas opq : Nat) : Sv := ⟨⟨[⟨10, ⟨#[107]⟩, [], 0, if (exp : Int) = 4294967295 then 0 else (exp : Int), cas, delta, initial, decide ((exp : Int) ≠ 4294967295), false⟩], formQ 5 opq false ⟨#[107]⟩ 1⟩, ⟨#[]⟩, 45, 0, false, 0⟩
def numS (flags exp cas opq : Nat) : Sv := ⟨⟨[⟨3, ⟨#[107]⟩, [118], flags, exp, cas, 0, 0, false, false⟩], formQ 1 opq false ⟨#[107]⟩ 1⟩, ⟨#[]⟩, 34, 0, false, 0⟩
theorem drop_len {a b : List UInt8} {n : Nat} (h : a.length = n) : (a ++ b).drop n = b := by rw [← h, List.drop_left]
theorem take_len {a b : List UInt8} {n : Nat} (h : a.length = n) : (a ++ b).take n = a := by rw [← h, List.take_left' rfl]
theorem numA_is {delta initial exp cas opq : Nat} (h1 : delta < 18446744073709551616) (h2 : initial < 18446744073709551616) (h3 : exp < 4294967296) (h4 : cas < 18446744073709551616) (h5 : opq < 4294967296) :
    parse16 (packL 5 (byL (be delta 8) ++ byL (be initial 8) ++ byL (be exp 4)) [107] [] cas opq) = numA delta initial exp cas opq := by
  have l1 := byL_be_len delta 8
  have l2 := byL_be_len initial 8
  have l3 := byL_be_len exp 4
  have n1 := numB_eight_be h1
  have n2 := numB_eight_be h2
  have n3 := numB_four_be h3
  have hl : (byL (be delta 8) ++ byL (be initial 8) ++ byL (be exp 4)).length = 20 := by simp only [List.length_append]; omega
  have hx : (byL (be delta 8) ++ byL (be initial 8) ++ byL (be exp 4)).take 8 = byL (be delta 8) := by rw [List.append_assoc, take_len l1]
  have hy : ((byL (be delta 8) ++ byL (be initial 8) ++ byL (be exp 4)).drop 8).take 8 = byL (be initial 8) := by rw [List.append_assoc, drop_len l1, take_len l2]
  have hz : ((byL (be delta 8) ++ byL (be initial 8) ++ byL (be exp 4)).drop 16).take 4 = byL (be exp 4) := by
    rw [drop_len (by rw [List.length_append]; omega), List.take_of_length_le (by omega)]
  have hp := pack_is (p := 5) (x := byL (be delta 8) ++ byL (be initial 8) ++ byL (be exp 4)) (key := [107]) (v := []) (cas := cas) (opq := opq) (by rw [hl]; decide) (by decide) (by rw [hl]; decide) h4 h5
  rw [parse_pack hp (by rw [hl]; decide), hl]
  have hst : statusN (ofN (((5 : UInt8).toNat : Nat) : Int)) ((20 : Nat) : Int) (([107] : List UInt8).length : Int) ((20 + ([107] : List UInt8).length + ([] : List UInt8).length : Nat) : Int) = 0 := by decide
  rw [if_neg (by rw [hst]; simp)]
  have he : (ofN (((5 : UInt8).toNat : Nat) : Int)).ext = 20 := by decide
  rw [cmdB_20 he, hx, hy, hz, n1, n2, n3]
  rfl
theorem numS_is {flags exp cas opq : Nat} (h1 : flags < 4294967296) (h3 : exp < 4294967296) (h4 : cas < 18446744073709551616) (h5 : opq < 4294967296) :
    parse16 (packL 1 (byL (be flags 4) ++ byL (be exp 4)) [107] [118] cas opq) = numS flags exp cas opq := by
  have l1 := byL_be_len flags 4
  have l3 := byL_be_len exp 4
  have n1 := numB_four_be h1
  have n3 := numB_four_be h3
  have hl : (byL (be flags 4) ++ byL (be exp 4)).length = 8 := by simp only [List.length_append]; omega
  have hx : (byL (be flags 4) ++ byL (be exp 4)).take 4 = byL (be flags 4) := take_len l1
  have hy : ((byL (be flags 4) ++ byL (be exp 4)).drop 4).take 4 = byL (be exp 4) := by rw [drop_len l1, List.take_of_length_le (by omega)]
  have hp := pack_is (p := 1) (x := byL (be flags 4) ++ byL (be exp 4)) (key := [107]) (v := [118]) (cas := cas) (opq := opq) (by rw [hl]; decide) (by decide) (by rw [hl]; decide) h4 h5
  rw [parse_pack hp (by rw [hl]; decide), hl]
  have hst : statusN (ofN (((1 : UInt8).toNat : Nat) : Int)) ((8 : Nat) : Int) (([107] : List UInt8).length : Int) ((8 + ([107] : List UInt8).length + ([118] : List UInt8).length : Nat) : Int) = 0 := by decide
  rw [if_neg (by rw [hst]; simp)]
  have he : (ofN (((1 : UInt8).toNat : Nat) : Int)).ext = 8 := by decide
  rw [cmdB_8 he, hx, hy, n1, n3]
  rfl
theorem bu_nil (w : World) : Bu w none 0 0 [] := ⟨rfl, .inl ⟨rfl, rfl, fun _ => rfl⟩, Nat.le_refl _, Nat.zero_le _⟩
/-- A number as bytes, as a row of one's own. -/
theorem rput_row (n : Nat) (hn : n < 18446744073709551616) (size : Nat) (hsz : size ≤ 8) (w : World) : Calls Try.prog 14 #[.int .u64 n, .int .i64 size] w fun e w' => ∃ v, e = .returned v ∧ Row2 w w' v size (byL (be n size)) := by
  refine (refPut_any n hn size hsz w).mono fun e w' ⟨h1, h2, h3⟩ => ⟨_, h1, ?_, byL_be_len n size, gr_of_below h3⟩
  unfold byU byV
  rw [ints_byL (be_byt _ _)]
  exact h2
/-- A request of its parts, put together and parsed. -/
theorem rng_up {W W' : World} {b off : Nat} {l : List Value} (g : W.grownBy W' none) (h : W.rangeAt b off l) : W'.rangeAt b off l := fun j v hv => ((below_gr g).cell (World.block_lt_of_cell? W _ (h j v hv))).trans (h j v hv)
theorem cu_one {w : World} {ca : Option Addr} {cc : Nat} {x : Cv} (h : Cu w ca 1 cc [x]) : ∃ cb co, ca = some ⟨cb, co, none⟩ ∧ ∃ va vc, w.rangeAt cb co (cmC x va vc).toList ∧ Bu w va x.val.length vc x.val := by
  obtain ⟨b, off, e, va, vc, h1, h2⟩ := h.get (i := 0) (by decide)
  rw [show off + 0 * 10 = off by omega] at h1
  exact ⟨b, off, e, va, vc, h1, h2⟩
end Go.Proofs.Ytegaljpllcgaaaa
