/- What the texts on places told by a function share (package bloom's and package sketch's): boxes, draws, single cells that are set. Conditions: none. -/
import Derived.Test.YtpjmhiokhoplmaaRangeOwn
import Derived.Test.YtpjmhiokhoplmaaRangeKit
import Derived.Test.YtpjmhiokhoplmaaSeveral
import Derived.Stop.RegionWithIn
import Derived.Deep.RegionHeld3
namespace Go.Proofs.Ytpjmhiokhoplmaa
open Go.RowKit Go.Shelf

theorem room_of_wide (k : Nat) : Fence.wide.room k := fun _ h => by cases h
theorem yield_depth {m : Nat} (m' : Nat) {P : Program} {l : Nat} {args : Array Value} {W : World} {R : Ending → World → Prop} (h : YieldAt Fence.wide m P l args W R) : YieldAt Fence.wide m' P l args W R := by
  obtain ⟨fn, tmps, assign, body, hy, hR⟩ := h
  exact ⟨fn, tmps, assign, body, hy, hR.1, fun c cs _ => hR.2 c cs (room_of_wide _)⟩
theorem box1 (W : World) (v : Value) (t : TypeId) : ∃ V, W.alloc (.cells #[v] t) = V ∧ Boxed V W.heap.size t v ∧ V.heap.size = W.heap.size + 1 ∧ W.grownBy V none ∧
    (∀ (a : Addr) (u : Value), W.cell? a = some u → V.cell? a = some u) ∧ (∀ {J : List Nat → World → Prop} {B : Nat} {q : List Nat}, OwnFrom B J → J q W → J q V) := by
  refine ⟨_, rfl, Boxed.new W t v, World.size_alloc _ _, World.grownBy_alloc _ _ _, fun a u h => ?_, fun hJ hq => own_new hJ _ hq⟩
  rw [World.cell?_of_block (w := W) (Below.heap_alloc _ _ _ (block_lt_of_cell h))]
  exact h
theorem boxes3 (W : World) (sd : Nat) (s : ByteArray) (many : Int) : ∃ V, (((W.alloc (.cells #[.int .u64 sd] 22)).alloc (.cells #[.string s] 9)).alloc (.cells #[.int .i64 many] 3)).drew = V ∧
    Boxed V W.heap.size 22 (.int .u64 sd) ∧ Boxed V (W.heap.size + 1) 9 (.string s) ∧ Boxed V (W.heap.size + 1 + 1) 3 (.int .i64 many) ∧ V.heap.size = W.heap.size + 3 ∧
    (∀ {B : Nat} {t : TypeId} {v : Value}, Boxed W B t v → Boxed V B t v) ∧ (∀ {J : List Nat → World → Prop} {B : Nat} {q : List Nat}, OwnFrom B J → J q W → J q V) := by
  refine ⟨_, rfl, ?_⟩
  have b1 := Boxed.new W 22 (.int .u64 sd)
  have b2 := Boxed.new (W.alloc (.cells #[.int .u64 sd] 22)) 9 (.string s)
  have b3 := Boxed.new ((W.alloc (.cells #[.int .u64 sd] 22)).alloc (.cells #[.string s] 9)) 3 (.int .i64 many)
  simp only [World.size_alloc] at b2 b3
  exact ⟨(b1.alloc _).alloc _, b2.alloc _, b3, by simp only [World.size_alloc, World.drew], fun h => ((h.alloc _).alloc _).alloc _, fun hJ hq => own_drew hJ (own_new hJ _ (own_new hJ _ (own_new hJ _ hq)))⟩
theorem since_set {B b o : Nat} (W : World) (v : Value) (h : b < B) : Since B W (W.setCell ⟨b, o, none⟩ v) := by
  refine ⟨(KeepsWalks.setCell W _ v).size, fun k hk _ => Below.heap_setCell _ _ _ k (fun e => ?_)⟩
  simp only at e
  omega
theorem since_drewN (B : Nat) (W : World) (k : Nat) : Since B W (W.drewN k) := ⟨Nat.le_refl _, fun _ _ _ => rfl⟩
theorem gr_drewN {w V : World} {x : Option Nat} (h : w.grownBy V x) (k : Nat) : w.grownBy (V.drewN k) x := ⟨h.1, h.2, h.3, h.4, h.5⟩
theorem drew_gr {w V : World} {x : Option Nat} (h : w.grownBy V x) : w.grownBy V.drew x := ⟨h.1, h.2, h.3, h.4, h.5⟩
theorem nat_beq {z : Nat} (h : ¬ z = 0) : ((z : Int) == 0) = false := by simpa using h
theorem wrap_nat (n : Nat) (h : n < 9223372036854775808) : IntKind.i64.wrap (n : Int) = (n : Int) := by
  simp [IntKind.wrap, IntKind.bits, IntKind.signed]
  omega
theorem set_gr {w V : World} {b o k : Nat} (h : w.grownBy V (some b)) (v : Value) : w.grownBy ((V.drewN k).setCell ⟨b, o, none⟩ v) (some b) :=
  ⟨h.1, h.2, h.3, Nat.le_trans h.4 (KeepsWalks.setCell (V.drewN k) _ v).size, fun i hi hb => (Below.heap_setCell _ _ _ i (fun e => hb (by rw [e]))).trans (h.5 i hi hb)⟩
theorem boxed_set {V : World} {B b o k : Nat} {t : TypeId} {v : Value} (h : Boxed V B t v) (hne : B ≠ b) (u : Value) : Boxed ((V.drewN k).setCell ⟨b, o, none⟩ u) B t v :=
  (Below.heap_setCell _ _ _ B (fun e => hne e)).trans h
end Go.Proofs.Ytpjmhiokhoplmaa
