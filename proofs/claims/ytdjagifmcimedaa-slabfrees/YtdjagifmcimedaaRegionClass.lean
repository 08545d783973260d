/- A region that draws its order, all of whose operations and calls keep the world within a class in which each yields one value: one walk in the order of the text serves every order. Over the library's theorem. Conditions: none. -/
import Derived.Sort.BigQuietIn
import Derived.Shelf.Abstract
import Derived.Test.YtdjagifmcimedaaKit0
namespace Go.Proofs.Ytdjagifmcimedaa
open Go.RowKit

theorem region_class {P : Program} {C : World → Prop} {id : Nat} {Q : Exit → Act → World → Prop} {a : Act} {w : World} {l : List Oper} (n : Nat) (hm : P.follows .mixedOrders = true) (hB : Region.lexB .any l.toArray = true) (hC : C w.drew)
    (h : wpQuietIn Fence.wide n P l.toArray C (fun a' => ∀ w', C w' → Q .normal a' w') l a) : (Code.region id l.toArray true).wp P Q a w :=
  (wpIn_wide (n := n)).1 (wpIn_region_quiet (C := C) rfl hm hB hC (by simpa using h))
/-- One operation of the walk: its value, in every world of the class. -/
theorem class_step {P : Program} {C : World → Prop} {n : Nat} {Q : Act → Prop} {ops : Array Oper} {o : Oper} {rest : List Oper} {a a' : Act} (v : Value) (hw : Region.wanted o (yielded ops a.tmps) = true)
    (h : ∀ w, C w → o.quietAtIn Fence.wide n P a C w v) (ha : a.put o.dst v = a') (hr : wpQuietIn Fence.wide n P ops C Q rest a') : wpQuietIn Fence.wide n P ops C Q (o :: rest) a :=
  wpQuietIn_step (fun _ _ _ _ => trivial) fun _ hK => by
    rw [if_pos hw]
    exact ⟨v, h, by rw [ha]; exact hK _ hr⟩
end Go.Proofs.Ytdjagifmcimedaa
