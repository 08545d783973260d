/- The document's own number of a status, and its answer of parts. Conditions: extras of at most 255 bytes, a key and a value of at most 100000. -/
import Derived.Test.YtaafkefgpgoepaaBoM
import Derived.Test.YtaafkefgpgoepaaRowPut
import Derived.Deep.Cut
namespace Go.Proofs.Ytaafkefgpgoepaa
set_option linter.unusedVariables false
open Go.RowKit

theorem eq_false {a b : Int} (h : ¬ a = b) : (a == b) = false := by rw [beq_eq_false_iff_ne]; exact h
set_option maxRecDepth 100000 in
set_option maxHeartbeats 4000000 in
theorem rcode_any (s : Int) (w : World) : Calls Try.prog 13 #[.int .i64 s] w fun e w' => e = .returned (.int .u16 (codeN s)) ∧ w' = w := by
  have hs : s = 0 ∨ s = 1 ∨ s = 2 ∨ s = 3 ∨ s = 4 ∨ s = 5 ∨ s = 6 ∨ s = 7 ∨ s = 8 ∨ s = 9 ∨ s = 10 ∨ s = 11 ∨ (¬ s = 0 ∧ ¬ s = 1 ∧ ¬ s = 2 ∧ ¬ s = 3 ∧ ¬ s = 4 ∧ ¬ s = 5 ∧ ¬ s = 6 ∧ ¬ s = 7 ∧ ¬ s = 8 ∧ ¬ s = 9 ∧ ¬ s = 10 ∧ ¬ s = 11) := by omega
  rcases hs with rfl | rfl | rfl | rfl | rfl | rfl | rfl | rfl | rfl | rfl | rfl | rfl | ⟨h0, h1, h2, h3, h4, h5, h6, h7, h8, h9, h10, h11⟩
  rotate_right 1
  · have e : codeN s = 132 := by unfold codeN; rw [if_neg (by omega), if_neg h1, if_neg h4, if_neg h3, if_neg h8, if_neg h9]
    rw [e]
    have z0 := eq_false h0
    have z1 := eq_false h1
    have z2 := eq_false h2
    have z3 := eq_false h3
    have z4 := eq_false h4
    have z5 := eq_false h5
    have z6 := eq_false h6
    have z7 := eq_false h7
    have z8 := eq_false h8
    have z9 := eq_false h9
    have z10 := eq_false h10
    have z11 := eq_false h11
    clear e
    go_enter Try.func13, Try.ntmps13
    go_wp2
    go_ret
    exact ⟨rfl, rfl⟩
  all_goals
    go_enter Try.func13, Try.ntmps13
    go_wp2
    go_ret
    exact ⟨rfl, rfl⟩
theorem fmA_at {W : World} {p : Nat} {f : Fv} {ta ka : Option Addr} {tc kc : Nat} {t : TypeId} (h : W.heap[p]? = some (.cells (fmC f ta tc ka kc) t (0, 0))) (j : Nat) (v : Value) (hv : (fmC f ta tc ka kc)[j]? = some v) : W.cell? ⟨p, j, none⟩ = some v := by
  unfold World.cell?
  rw [h]
  exact hv
theorem u8_mod (c : Int) : IntKind.u8.wrap c = c % 256 := by
  rw [IntKind.wrap_u8]
section
variable {w : World}
set_option maxRecDepth 100000 in
set_option maxHeartbeats 4000000 in
theorem rpacket_any {f : Fv} {ta ka : Option Addr} {tc kc : Nat} {x v : List UInt8} {key : ByteArray} {xa va : Option Addr} {xn xc vn vc : Nat} {st cas opq : Nat} (hx : Bu w xa xn xc x) (hv : Bu w va vn vc v) (x1 : xn ≤ 255) (k1 : key.size ≤ 100000) (v1 : vn ≤ 100000) (hs : st < 65536) (hc : cas < 18446744073709551616) (ho : opq < 4294967296) (hf : f.opq = (opq : Int)) :
    Calls Try.prog 20 #[.agg (fmC f ta tc ka kc), .int .u16 st, .int .u64 cas, .slice xa xn xc, .string key, .slice va vn vc] w fun e w' => ∃ a n cap, e = .returned (.slice a n cap) ∧ n = 24 + xn + key.size + vn ∧ Bu w' a n cap (packA f.code opq st cas x key.data.toList v) ∧ w.grownBy w' none := by
  have Hk : key.size < 18446744073709551616 := Nat.lt_of_le_of_lt k1 (by decide)
  have Hs : xn + key.size + vn < 18446744073709551616 := by omega
  have Ho : opq < 18446744073709551616 := Nat.lt_trans ho (by decide)
  have Hst : st < 18446744073709551616 := Nat.lt_trans hs (by decide)
  have Hx : xn < 256 := Nat.lt_succ_of_le x1
  have Ha : 24 + xn ≤ 100000000 ∧ 24 + xn + key.size ≤ 100000000 ∧ 24 + xn + key.size + vn ≤ 100000000 := by omega
  have cw := u8_mod f.code
  obtain ⟨e1, e2, e3, e4, e5⟩ := sum_ok x1 k1 v1
  have e6 := u64_nat (n := opq) Ho
  have e7 := u64_nat (n := st) Hst
  have HK := hide (fun W => rput_bu key.size Hk 2 (by decide) W)
  have HL : Hid (∀ W, Calls Try.prog 21 #[.int .u64 ((xn : Int) + (key.size : Int) + (vn : Int)), .int .i64 4] W fun e w' => ∃ g, e = .returned (.slice (some ⟨g, 0, none⟩) 4 4) ∧ Bu w' (some ⟨g, 0, none⟩) 4 4 (byL (be (xn + key.size + vn) 4)) ∧ W.grownBy w' none) := fun W => by
    have h := rput_bu (xn + key.size + vn) Hs 4 (by decide) W
    rw [Int.natCast_add, Int.natCast_add] at h
    exact h
  have HO := hide (fun W => rput_bu opq Ho 4 (by decide) W)
  have HT := hide (fun W => rput_bu st Hst 2 (by decide) W)
  have HC := hide (fun W => rput_bu cas hc 8 (by decide) W)
  obtain ⟨V, hV⟩ : ∃ V, V = w.alloc (.cells (fmC f ta tc ka kc) 26) := ⟨_, rfl⟩
  obtain ⟨B, hB⟩ : ∃ B, B = w.heap.size := ⟨_, rfl⟩
  have gV : w.grownBy V none := by rw [hV]; exact World.grownBy_alloc _ _ _
  have rV : V.heap[B]? = some (.cells (fmC f ta tc ka kc) 26 (0, 0)) := by rw [hV, hB]; exact World.alloc_heap_new w _
  have lV := (Array.getElem?_eq_some_iff.1 rV).1
  have c2 := fmA_at rV 2 (.int .i64 f.code) rfl
  obtain ⟨p, hp⟩ : ∃ p : UInt8, p = UInt8.ofNat (f.code % 256).toNat := ⟨_, rfl⟩
  have hpi : ((p.toNat : Nat) : Int) = f.code % 256 := by rw [hp, UInt8.toNat_ofNat']; omega
  have R1 : Hid (Row2 V (V.alloc (.cells #[.int .u8 129, .int .u8 (f.code % 256)] 5)) (.slice (some ⟨V.heap.size, 0, none⟩) 2 2) 2 [129, p]) := row2_new V [129, p] 2 rfl (by decide) _ (by rw [← hpi]; rfl)
  have HX := hide (fun (W : World) (g : V.grownBy W none) => hx.on (below_gr (gr_trans gV g)))
  have HV := hide (fun (W : World) (g : V.grownBy W none) => hv.on (below_gr (gr_trans gV g)))
  have HF := hide (fun (W : World) (g : V.grownBy W none) => fmA_at ((g.block B lV (by simp)).trans rV) 3 (.int .u32 (opq : Int)) (by rw [← hf]; rfl))
  have T1 : Hid (∀ W : World, Bu (W.alloc (.cells #[.int .u8 (xn : Int)] 5)) (some ⟨W.heap.size, 0, none⟩) 1 1 [UInt8.ofNat xn]) := fun W => by
    have := room_u (n := 1) W [UInt8.ofNat xn] rfl (by decide)
    rw [show (byU [UInt8.ofNat xn]).toArray = #[.int .u8 (xn : Int)] from by
      unfold byU byV ints
      simp only [List.map_cons, List.map_nil]
      rw [UInt8.toNat_ofNat', Nat.mod_eq_of_lt Hx]] at this
    exact this
  have T3 : Hid (∀ W : World, Bu (W.alloc (.cells #[.int .u8 0] 5)) (some ⟨W.heap.size, 0, none⟩) 1 1 [0]) := fun W => room_u (n := 1) W [0] rfl (by decide)
  have B1 := hide Ha
  have XE : Hid (x.length = xn ∧ v.length = vn) := ⟨hx.n, hv.n⟩
  have HP := hide hp
  replace gV := hide gV
  simp only [fmC] at hV ⊢
  clear hx hv x1 k1 v1 hc ho hs Hk Hs Ho Hst Hx Ha hpi rV hp lV hf
  go_enter Try.func20, Try.ntmps20
  go_upto_region 1 with fail
  rw [← hV, ← hB]
  clear hV hB
  go_wp2_with (first
    | (have t := R1; clear t; go_at_call 21; refine (HK.out _).mono ?_; rintro e w2 ⟨g2, rfl, b2, q2⟩; have R2 := hide (R1.out.up q2); replace b2 := hide b2; clear R1 q2 HK)
    | (have t := R2; clear t; at_builtin; refine wpList_row2 R2.out rfl _ _ rfl rfl rfl b2.out (by decide) ?_; intro v3 w3 R3; replace R3 := hide R3; clear R2 b2)
    | (have t := R3; clear t; at_builtin; refine wpList_row2 (R3.out.up (World.grownBy_alloc _ _ none)) rfl _ _ rfl rfl rfl (T1.out w3) (by decide) ?_; intro v4 w4 R4; replace R4 := hide R4; clear R3 T1)
    | (have t := R4; clear t; at_builtin; refine wpList_row2 (R4.out.up (World.grownBy_alloc _ _ none)) rfl _ _ rfl rfl rfl (T3.out w4) (by decide) ?_; intro v5 w5 R5; replace R5 := hide R5; clear R4 T3)
    | (have t := R5; clear t; go_at_call 21; refine (HT.out _).mono ?_; rintro e w6 ⟨g6, rfl, b6, q6⟩; have R6 := hide (R5.out.up q6); replace b6 := hide b6; clear R5 q6 HT)
    | (have t := R6; clear t; at_builtin; refine wpList_row2 R6.out rfl _ _ rfl rfl rfl b6.out (by decide) ?_; intro v7 w7 R7; replace R7 := hide R7; clear R6 b6)
    | (have t := R7; clear t; go_at_call 21; refine (HL.out _).mono ?_; rintro e w8 ⟨g8, rfl, b8, q8⟩; have R8 := hide (R7.out.up q8); replace b8 := hide b8; clear R7 q8 HL)
    | (have t := R8; clear t; at_builtin; refine wpList_row2 R8.out rfl _ _ rfl rfl rfl b8.out (by decide) ?_; intro v9 w9 R9; have c3 := HF.out _ R9.gr; replace R9 := hide R9; clear R8 b8 HF)
    | (have t := R9; clear t; go_at_call 21; refine (HO.out _).mono ?_; rintro e w10 ⟨g10, rfl, b10, q10⟩; have R10 := hide (R9.out.up q10); replace b10 := hide b10; clear R9 q10 HO c3)
    | (have t := R10; clear t; at_builtin; refine wpList_row2 R10.out rfl _ _ rfl rfl rfl b10.out (by decide) ?_; intro v11 w11 R11; replace R11 := hide R11; clear R10 b10)
    | (have t := R11; clear t; go_at_call 21; refine (HC.out _).mono ?_; rintro e w12 ⟨g12, rfl, b12, q12⟩; have R12 := hide (R11.out.up q12); replace b12 := hide b12; clear R11 q12 HC)
    | (have t := R12; clear t; at_builtin; refine wpList_row2 R12.out rfl _ _ rfl rfl rfl b12.out (by decide) ?_; intro v13 w13 R13; replace R13 := hide R13; clear R12 b12)
    | (have t := R13; clear t; at_builtin; refine wpList_row2 R13.out rfl _ _ rfl rfl rfl (HX.out _ R13.out.gr) B1.out.1 ?_; intro v14 w14 R14; replace R14 := hide R14; clear R13 HX)
    | (have t := R14; clear t; at_builtin; refine wpList_row2s R14.out rfl _ _ rfl rfl rfl B1.out.2.1 ?_; intro v15 w15 R15; replace R15 := hide R15; clear R14)
    | (have t := R15; clear t; at_builtin; refine wpList_row2 R15.out rfl _ _ rfl rfl rfl (HV.out _ R15.out.gr) B1.out.2.2 ?_; intro v16 w16 R16; replace R16 := hide R16; clear R15 HV))
  go_ret
  obtain ⟨a, cap, hva, hb⟩ := R16.out.bu
  refine ⟨a, _, cap, congrArg Ending.returned hva, rfl, ?_, gr_trans gV.out R16.out.gr⟩
  unfold packA
  rw [XE.out.1, XE.out.2, ← HP.out, Int.toNat_natCast, Int.toNat_natCast, Int.toNat_natCast]
  exact hb
end
end Go.Proofs.Ytaafkefgpgoepaa
