/- Where package table looks for a text. Conditions: at most 20000 buckets, texts of at most 300 bytes. -/
import Derived.Test.YtncblaofgdcfmaaTableBkTake
import Derived.Test.YtncblaofgdcfmaaHashF
namespace Go.Proofs.Ytncblaofgdcfmaa
open Go.RowKit

theorem below_pl (sd n : Nat) (k : ByteArray) (hn : 0 < n) : belowN (ofN sd k.data.toList) (n : Int) = ((plN sd n k : Nat) : Int) := by
  unfold belowN plN
  rw [if_neg (by omega)]
  rfl
theorem head4 {w : World} {b : Nat} {t : TypeId} {x y z u : Value} (h : w.heap[b]? = some (.cells #[x, y, z, u] t (0, 0))) : w.cell? ⟨b, 0, none⟩ = some x ∧ w.cell? ⟨b, 1, none⟩ = some y ∧ w.cell? ⟨b, 2, none⟩ = some z ∧ w.cell? ⟨b, 3, none⟩ = some u := by
  simp [World.cell?, h]
set_option maxRecDepth 100000 in
set_option maxHeartbeats 2000000 in
theorem place_old {w : World} {b sd N left gE cB cE : Nat} {aB : Option Addr} {many : Int} (hw : w.heap[b]? = some (.cells #[.int .u64 sd, .int .i64 many, .slice aB N cB, .slice (some ⟨gE, 0, none⟩) left cE] 52 (0, 0))) (hsd : sd < 18446744073709551616) (hN : 8 ≤ N) (hN2 : N ≤ 20000) (k : ByteArray) (hk : k.size ≤ 300) (hp : plN sd (N / 2) k < left) :
    Calls Try.prog 25 #[.pointer (some ⟨b, 0, none⟩), .string k] w fun e w' => e = .returned (.pointer (some ⟨gE, plN sd (N / 2) k, none⟩)) ∧ w.grownBy w' none := by
  obtain ⟨c0, -, c2, c3⟩ := head4 hw
  obtain ⟨h, hh⟩ : ∃ h, ofN sd k.data.toList = h := ⟨_, rfl⟩
  have hlt : h < 18446744073709551616 := by rw [← hh]; exact of_lt _ _
  have HB := hide (below_pl sd (N / 2) k (by omega))
  rw [hh] at HB
  have HO := hide (fun W => of_any sd hsd k (by omega) W)
  rw [hh] at HO
  have hpN : plN sd (N / 2) k < N / 2 := Nat.mod_lt _ (by omega)
  obtain ⟨p, hpp⟩ : ∃ p, plN sd (N / 2) k = p := ⟨_, rfl⟩
  rw [hpp] at hp HB hpN ⊢
  have hpi : (p : Int) < (left : Int) := by omega
  have HL := hide (fun W => below_any h hlt ((N / 2 : Nat) : Int) (by omega) (by omega) W)
  rw [HB.out] at HL
  clear hw hh hpp HB
  go_enter Try.func25, Try.ntmps25
  go_wp2_with (first
    | (go_at_call 33; refine (HO.out _).mono ?_; rintro e w1 ⟨rfl, rfl⟩)
    | (go_at_call 34; refine (HL.out _).mono ?_; rintro e w1 ⟨rfl, rfl⟩))
  go_ret
  exact ⟨rfl, gr_refl _ _⟩
set_option maxRecDepth 100000 in
set_option maxHeartbeats 2000000 in
theorem place_new {w : World} {b sd N left gB cB cE : Nat} {aE : Option Addr} {many : Int} (hw : w.heap[b]? = some (.cells #[.int .u64 sd, .int .i64 many, .slice (some ⟨gB, 0, none⟩) N cB, .slice aE left cE] 52 (0, 0))) (hsd : sd < 18446744073709551616) (hN : 8 ≤ N) (hN2 : N ≤ 20000) (k : ByteArray) (hk : k.size ≤ 300) (hp : left ≤ plN sd (N / 2) k) :
    Calls Try.prog 25 #[.pointer (some ⟨b, 0, none⟩), .string k] w fun e w' => e = .returned (.pointer (some ⟨gB, plN sd N k, none⟩)) ∧ w.grownBy w' none := by
  obtain ⟨c0, -, c2, c3⟩ := head4 hw
  have c2' : w.drew.cell? ⟨b, 2, none⟩ = some (.slice (some ⟨gB, 0, none⟩) N cB) := c2
  obtain ⟨h, hh⟩ : ∃ h, ofN sd k.data.toList = h := ⟨_, rfl⟩
  have hlt : h < 18446744073709551616 := by rw [← hh]; exact of_lt _ _
  have HB := hide (below_pl sd (N / 2) k (by omega))
  have HB2 := hide (below_pl sd N k (by omega))
  rw [hh] at HB HB2
  have HO := hide (fun W => of_any sd hsd k (by omega) W)
  rw [hh] at HO
  have hpN : plN sd (N / 2) k < N / 2 := Nat.mod_lt _ (by omega)
  have hqN : plN sd N k < N := Nat.mod_lt _ (by omega)
  obtain ⟨p, hpp⟩ : ∃ p, plN sd (N / 2) k = p := ⟨_, rfl⟩
  obtain ⟨q, hqq⟩ : ∃ q, plN sd N k = q := ⟨_, rfl⟩
  rw [hpp] at hp HB hpN
  rw [hqq] at hqN HB2 ⊢
  have hpi : ¬ (p : Int) < (left : Int) := by omega
  have hqi : (q : Int) < (N : Int) := by omega
  have hqd : decide (q < N) = true := decide_eq_true hqN
  have HL := hide (fun W => below_any h hlt ((N / 2 : Nat) : Int) (by omega) (by omega) W)
  have HL2 := hide (fun W => below_any h hlt (N : Int) (by omega) (by omega) W)
  rw [HB.out] at HL
  rw [HB2.out] at HL2
  clear hw hh hpp hqq HB HB2
  go_enter Try.func25, Try.ntmps25
  go_upto_region 5 with (first
    | (go_at_call 33; refine (HO.out _).mono ?_; rintro e w1 ⟨rfl, rfl⟩)
    | (go_at_call 34; refine (HL.out _).mono ?_; rintro e w1 ⟨rfl, rfl⟩))
  go_quiet ((go_at_call 34; refine Calls.quiet_of_same ((HL2.out _).mono fun e w' h => ⟨h.1, h.2.symm⟩)))
  go_wp2
  go_ret
  exact ⟨rfl, ⟨rfl, rfl, rfl, Nat.le_refl _, fun _ _ _ => rfl⟩⟩
end Go.Proofs.Ytncblaofgdcfmaa
