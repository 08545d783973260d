/- The head of an answer of package binout, as bytes. Conditions: none. -/
import Derived.Test.YtaafkefgpgoepaaG37Joined
import Derived.Test.YtaafkefgpgoepaaPoCode
import Derived.Test.YtaafkefgpgoepaaRegionInv
import Derived.Test.YtaafkefgpgoepaaByteCats
namespace Go.Proofs.Ytaafkefgpgoepaa
set_option linter.unusedVariables false
set_option linter.unusedSimpArgs false
open Go.RowKit Go.Shelf

/-- The rows of a head. -/
def headR (c opq st cas : Int) (xn kn vn : Nat) : List (List UInt8) :=
  [[129, UInt8.ofNat (c % 256).toNat], byL (be kn 2), [UInt8.ofNat xn, 0], byL (be st.toNat 2), byL (be (xn + kn + vn) 4), byL (be opq.toNat 4), byL (be cas.toNat 8)]
def headL (c opq st cas : Int) (xn kn vn : Nat) : List UInt8 := (headR c opq st cas xn kn vn).flatten
theorem be_len (n size : Nat) : (byL (be n size)).length = size := by simp [byL, be]
theorem headL_len (c opq st cas : Int) (xn kn vn : Nat) : (headL c opq st cas xn kn vn).length = 24 := by
  unfold headL headR
  simp [List.length_flatten, be_len]
theorem packA_head (c opq st cas : Int) (x key v : List UInt8) : packA c opq st cas x key v = headL c opq st cas x.length key.length v.length ++ x ++ key ++ v := by
  unfold packA headL headR
  simp [List.flatten, List.append_assoc]
theorem w64_idH {z : Int} (h0 : 0 ≤ z) (h1 : z < 8589934592) : wrap64 z = z := by unfold wrap64; omega
/-- A row of bytes, somewhere. -/
def IsU (n : Nat) (l : List UInt8) (v : Value) (w : World) : Prop := ∃ g, v = .slice (some ⟨g, 0, none⟩) n n ∧ Bu w (some ⟨g, 0, none⟩) n n l
theorem IsU.on {n : Nat} {l : List UInt8} {v : Value} {w w' : World} (h : IsU n l v w) (g : w.grownBy w' none) : IsU n l v w' := by
  obtain ⟨k, h1, h2⟩ := h
  exact ⟨k, h1, h2.on (below_gr g)⟩
theorem newU_is {w w' : World} {n : Nat} {l : List UInt8} {e : Ending} (h : NewU w n l e w') : ∃ v, e = .returned v ∧ w.grownBy w' none ∧ IsU n l v w' := by
  obtain ⟨g, h1, h2, h3⟩ := h
  exact ⟨_, h1, h3, g, rfl, h2 w' ⟨Nat.le_refl _, fun _ _ _ => rfl⟩⟩
/-- A row of two bytes, made. -/
theorem two_row (w : World) (a b : UInt8) : Bu (w.alloc (.cells #[.int .u8 (a.toNat : Int), .int .u8 (b.toNat : Int)] 5)) (some ⟨w.heap.size, 0, none⟩) 2 2 [a, b] := room_u w [a, b] rfl (by decide)
theorem u8_ofInt (c : Int) : ((UInt8.ofNat (c % 256).toNat).toNat : Int) = c % 256 := by
  have h : (UInt8.ofNat (c % 256).toNat).toNat = (c % 256).toNat % 256 := by first | exact UInt8.toNat_ofNat' | simp [UInt8.toNat_ofNat']
  rw [h]
  omega
theorem u8_ofNat {n : Nat} (h : n ≤ 255) : ((UInt8.ofNat n).toNat : Int) = (n : Int) := by
  have h2 : (UInt8.ofNat n).toNat = n % 256 := by first | exact UInt8.toNat_ofNat' | simp [UInt8.toNat_ofNat']
  rw [h2]
  omega
theorem mono_is (n : Nat) (l : List UInt8) : Mono (IsU n l) := fun _ _ _ g h => h.on g
/-- A row of bytes, with room behind or none. -/
def IsR (n : Nat) (l : List UInt8) : Value → World → Prop := fun v w => ∃ a c, v = .slice a n c ∧ Bu w a n c l
theorem mono_r (n : Nat) (l : List UInt8) : Mono (IsR n l) := fun v w w' g ⟨a, c, h1, h2⟩ => ⟨a, c, h1, h2.on (below_gr g)⟩
/-- Rows of bytes, one behind the other in a block. -/
def IsRs (n : Nat) (Ls : List (List UInt8)) : Value → World → Prop := fun v w => ∃ g, v = .slice (some ⟨g, 0, none⟩) n n ∧ Rws w g Ls
theorem mono_rs (n : Nat) (Ls : List (List UInt8)) : Mono (IsRs n Ls) := fun v w w' g ⟨k, h1, h2⟩ => ⟨k, h1, h2.step g⟩
theorem rws_of {W : World} {g : Nat} {Ls : List (List UInt8)} {cs : Array Value} {t : TypeId} {fr : Nat × Nat} (hr : W.heap[g]? = some (.cells cs t fr)) (h : ∀ i (hi : i < Ls.length), ∃ a n c, cs[i]? = some (.slice a n c) ∧ Bu W a n c Ls[i]) : Rws W g Ls := by
  refine ⟨fun i hi => ?_, (Array.getElem?_eq_some_iff.1 hr).1⟩
  obtain ⟨a, n, c, h1, h2⟩ := h i hi
  obtain rfl := h2.n
  refine ⟨a, c, ?_, h2.b⟩
  unfold World.cell?
  rw [hr]
  exact h1
/-- slices.Concat of rows in a block. -/
theorem cat_r {w : World} {g n : Nat} {Ls : List (List UInt8)} {m : Nat} (h : Rws w g Ls) (hn : Ls.length = n) (hm : n ≤ 1000) (hl : Ls.flatten.length = m) (hfew : m ≤ 50000) :
    Calls Try.prog 18 #[.slice (some ⟨g, 0, none⟩) n n] w fun e w' => ∃ v, e = .returned v ∧ w.grownBy w' none ∧ IsR m Ls.flatten v w' := by
  refine (catN_any h hn hm (by omega)).mono fun e w' ⟨v, h1, h2, h3⟩ => ⟨v, h1, h3, ?_⟩
  have R : Row2 w w' v Ls.flatten.length Ls.flatten := ⟨h2, rfl, h3⟩
  obtain ⟨a, c, e1, e2⟩ := R.bu
  rw [hl] at e1 e2
  exact ⟨a, c, e1, e2⟩
/-- An array of three slices, by its index. -/
theorem run_index_pt (j : Nat) (hj : j < 3) {o : Oper} {a : Act} {w : World} {x i : Operand} {A B C : Value} (ho : o.op = .index 38 x i) (hx : a.eval x = .agg #[A, B, C]) (hi : a.eval i = .int .i64 (j : Int)) : (execOp a.eval o).run Try.prog w = .ok (.value (#[A, B, C][j]'hj)) w := by
  unfold execOp
  simp only [ho, hx, hi]
  match j, hj with
  | 0, _ => go_simp; rfl
  | 1, _ => go_simp; rfl
  | 2, _ => go_simp; rfl
theorem wpList_index_pt {ops : Array Oper} {rest : List Oper} {o : Oper} {a : Act} {w : World} {Q : Exit → Act → World → Prop} (hgd : o.guard = none) (j : Nat) (hj : j < 3) {x i : Operand} {A B C : Value} (ho : o.op = .index 38 x i) (hx : a.eval x = .agg #[A, B, C]) (hi : a.eval i = .int .i64 (j : Int)) (h : wpList Try.prog ops Q rest (a.put o.dst (#[A, B, C][j]'hj)) w) : wpList Try.prog ops Q (o :: rest) a w :=
  wpList_plain hgd fun K hK => by
    unfold Oper.wp
    rw [run_index_pt j hj ho hx hi]
    exact hK _ _ h
end Go.Proofs.Ytaafkefgpgoepaa
