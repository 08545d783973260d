/- The chapter's example, reckoned. Conditions: none. -/
import Derived.Test.YthfkcbnabnmnjabGreatDoorG35Joined
import Derived.Test.YthfkcbnabnmnjabGreatDoorG00Joined
namespace Go.Proofs.YthfkcbnabnmnjabGreatDoor
open Go.RowKit Go.Shelf
variable {Sh : World → Nat → (Nat → Prop) → Nat → Nat → Hs → Prop}

def keyI (c : UInt8) : Iv := ⟨⟨#[c]⟩, [], 0, 0, 0, 0, 0, false, false, false⟩
def env1 : En := ⟨1, 0, 0, 0⟩
def aw1 : Hs := (storeH 1 (freshH 128 1) (keyI 97) env1).2
def aw2 : Hs := (storeH 1 aw1 (keyI 98) env1).2
def aw3 : Hs := (storeH 1 aw2 (keyI 99) env1).2
def aw4 : Hs := useH 1 aw3 ⟨#[99]⟩
def aw5 : Hs := useH 1 aw4 ⟨#[99]⟩
def aw6 : Hs := (storeH 1 aw5 (keyI 99) env1).2
theorem aw1_is : (storeH 1 (freshH 128 1) (keyI 97) env1).1 = 0 := by kernel_rfl
theorem aw2_is : (storeH 1 aw1 (keyI 98) env1).1 = 0 ∧ usedS aw2.slab = 128 := ⟨by kernel_rfl, by kernel_rfl⟩
theorem aw3_is : (storeH 1 aw2 (keyI 99) env1).1 = 8 := by kernel_rfl
theorem aw6_is : (storeH 1 aw5 (keyI 99) env1).1 = 0 := by kernel_rfl
theorem aw6_drops : aw6.drops = [⟨#[97]⟩] := by kernel_rfl
theorem aw6_len : aw6.ents.length = 2 := by kernel_rfl
theorem i64_lit (a : Int) (h : -9223372036854775808 ≤ a ∧ a < 9223372036854775808 := by decide) : I64 a := h
theorem u64_lit (a : Int) (h : 0 ≤ a ∧ a < 18446744073709551616 := by decide) : U64 a := h
theorem keyI_ok (c : UInt8) : (keyI c).ok := ⟨show 1 ≤ 140737488351232 by decide, show 0 ≤ 140737488351232 by decide, i64_lit 0, i64_lit 0, u64_lit 0⟩
theorem env1_ok : env1.ok := ⟨i64_lit 1, u64_lit 0, i64_lit 0, u64_lit 0⟩
theorem pairI {α : Type} (p : Int × α) (x : Int) (y : α) (h1 : p.1 = x) (h2 : p.2 = y) : p.1 = x ∧ p.2 = y := ⟨h1, h2⟩
theorem aw_ex : ∃ h1 h2 h3 h4 h5 h6 : Hs, ((storeH 1 (freshH 128 1) (keyI 97) env1).1 = 0 ∧ (storeH 1 (freshH 128 1) (keyI 97) env1).2 = h1) ∧ ((storeH 1 h1 (keyI 98) env1).1 = 0 ∧ (storeH 1 h1 (keyI 98) env1).2 = h2) ∧ usedS h2.slab = 128 ∧ ((storeH 1 h2 (keyI 99) env1).1 = 8 ∧ (storeH 1 h2 (keyI 99) env1).2 = h3) ∧
    useH 1 h3 ⟨#[99]⟩ = h4 ∧ useH 1 h4 ⟨#[99]⟩ = h5 ∧ ((storeH 1 h5 (keyI 99) env1).1 = 0 ∧ (storeH 1 h5 (keyI 99) env1).2 = h6) ∧ h6.drops = [⟨#[97]⟩] ∧ ((quietH h6).ents.length : Int) = 2 :=
  ⟨aw1, aw2, aw3, aw4, aw5, aw6, ⟨aw1_is, rfl⟩, ⟨aw2_is.1, rfl⟩, aw2_is.2, ⟨aw3_is, rfl⟩, rfl, rfl, ⟨aw6_is, rfl⟩, aw6_drops, by rw [show (quietH aw6).ents = aw6.ents from rfl, aw6_len]; rfl⟩
theorem read_none (w : World) (own : Nat → Prop) : ReadAt w own none 0 [] := ⟨.inl ⟨rfl, rfl, fun _ => rfl⟩, fun _ h => by simp at h⟩
/-- The env in its box, beside the shard. -/
theorem Law.envAt {w0 w : World} {A R : Part} {k : Nat} {en : En} (H : Law w0 w (A.and ((boxP k (.cells (enC en) 29)).and R))) : w.heap[k]? = some (.cells (enC en) 29 (0, 0)) := H.q.2.1.1
theorem below_gr' {w w' : World} (h : Below w.heap.size w w') : w.grownBy w' none := ⟨h.os, h.tape, h.output, h.size, fun k hk _ => h.block k hk⟩
end Go.Proofs.YthfkcbnabnmnjabGreatDoor
