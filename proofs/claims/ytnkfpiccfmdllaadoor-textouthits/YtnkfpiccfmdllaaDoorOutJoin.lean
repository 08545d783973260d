/- strings.Join, by the library's contract; a line told behind what is told already. Conditions: what is joined is at most 100000000 bytes long. -/
import Derived.Test.YtnkfpiccfmdllaaDoorShelf
import Derived.Test.YtnkfpiccfmdllaaDoorByteStr
import Derived.Test.YtnkfpiccfmdllaaDoorTextoutM
namespace Go.Proofs.YtnkfpiccfmdllaaDoor
set_option linter.unusedVariables false
open Go.RowKit Go.Shelf

theorem extraJ : Builder.Extra Tryd.prog Tryd.lays156_ren where
  sizeBuilder := by kernel_rfl
  liesBuilder := by kernel_rfl
  t5 := by kernel_rfl
  a5 := fun _ => by kernel_rfl
  z5 := fun _ => by kernel_rfl
  v5 := fun _ => by kernel_rfl
  infoByte := by kernel_rfl
  cellsByte := by kernel_rfl
  sizeByte := by kernel_rfl
  neB5 := by decide
section
variable {w : World} {a : Option Addr} {len cap : Nat} {ws : List ByteArray}
theorem join_any (h : Su w a len cap ws) (h0 : 0 < len) (hl : len ≤ 100) (hj : (Lib.join (ws.map (·.data.toList)) [32]).length ≤ 100000000) : Calls Tryd.prog 18 #[.slice a len cap, .string ⟨#[32]⟩] w fun e w' => e = .returned (.string (mkS (Lib.join (ws.map (·.data.toList)) [32]))) ∧ w.grownBy w' none := by
  rcases h.at_ with h1 | ⟨b, off, rfl, hb, hx⟩
  · omega
  · have hn := h.n
    subst hn
    refine (Any.strings_Join Tryd.lays156 extraJ b off cap ws ⟨#[32]⟩ w (fun j x hj => hx j x hj) hb (by omega) h.c (by show (Lib.join _ [32]).length ≤ _; omega)).mono fun e w' ⟨he, hw⟩ => ⟨he, gr_of_below hw⟩
/-- A line told behind what is told already. -/
def Told (base : Nat) (w : World) (v : Value) (l : List UInt8) (e : Ending) (w' : World) : Prop :=
  ∃ v', e = .returned v' ∧ w'.ownsRow base 5 1 v' l.length (byU l) ∧ w.grownBy w' v.ownBlock ∧ (v'.ownBlock = v.ownBlock ∨ ∃ k, v'.ownBlock = some k ∧ w.heap.size ≤ k)
set_option maxRecDepth 100000 in
set_option maxHeartbeats 2000000 in
theorem tell_any {base : Nat} {v : Value} {l : List UInt8} (hown : w.ownsRow base 5 1 v l.length (byU l)) (hb : base ≤ w.heap.size) (hll : l.length ≤ 10000000) (h : Su w a len cap ws) (h0 : 0 < len) (hl : len ≤ 100) (hj : (lineL ws).length ≤ 10000000) :
    Calls Tryd.prog 15 #[v, .slice a len cap] w fun e w' => Told base w v (l ++ lineL ws) e w' := by
  unfold lineL at hj ⊢
  rw [List.length_append] at hj
  have HJ := hide (join_any h h0 hl (by omega))
  obtain ⟨j, hjj⟩ : ∃ j, j = Lib.join (ws.map (·.data.toList)) [32] := ⟨_, rfl⟩
  rw [← hjj] at HJ hj ⊢
  clear hjj h h0 hl
  obtain ⟨n, hn⟩ : ∃ n, n = l.length := ⟨_, rfl⟩
  rw [← hn] at hown hll
  have HN := hide hn
  have hjs : (mkS j).size = j.length := mkS_size j
  have e2 : (⟨#[13, 10]⟩ : ByteArray).size = 2 := rfl
  have hjl : j.length ≤ 10000000 := by omega
  have HJL := hide hjl
  clear hn hj
  go_enter Tryd.func15, Tryd.ntmps15
  go_wp2_with (first
    | (go_at_call 18; refine HJ.out.mono ?_; rintro e w1 ⟨rfl, g1⟩; have o1 := own_up hown g1; have hb1 : base ≤ w1.heap.size := Nat.le_trans hb g1.size; replace g1 := hide g1; clear hown)
    | (at_builtin; refine wpList_append_str rfl _ _ rfl base v n l rfl o1 (mkS j) rfl (by rw [hjs]; omega) hb1 ?_; intro v2 w2 o2 g2 t2; rw [hjs, mkS_list] at o2; have hb2 : base ≤ w2.heap.size := Nat.le_trans hb1 g2.size; replace g2 := hide g2; replace t2 := hide t2; clear o1)
    | (at_builtin; refine wpList_append_str rfl _ _ rfl base v2 (n + j.length) (l ++ j) rfl o2 ⟨#[13, 10]⟩ rfl (by rw [e2]; omega) hb2 ?_; intro v3 w3 o3 g3 t3; replace g3 := hide g3; replace t3 := hide t3; clear o2))
  go_ret
  have hnn := HN.out
  have e4 : n + j.length + (⟨#[13, 10]⟩ : ByteArray).size = (l ++ (j ++ endL)).length := by
    show n + j.length + 2 = _
    simp only [List.length_append, endL, List.length_cons, List.length_nil]
    omega
  rw [e4] at o3
  have e5 : l ++ j ++ (⟨#[13, 10]⟩ : ByteArray).data.toList = l ++ (j ++ endL) := by simp [endL]
  rw [e5] at o3
  have s1 := g1.out.size
  have s2 := g2.out.size
  have G2 : w.grownBy w2 v.ownBlock := gr_trans (gr_any g1.out _) g2.out
  refine ⟨v3, rfl, o3, ?_, ?_⟩
  · rcases t2.out with t | t
    · have g3' := g3.out
      rw [t] at g3'
      exact gr_trans G2 g3'
    · have g3' := g3.out
      rw [t] at g3'
      exact gr_new G2 g3' s1
  · rcases t3.out with t | t
    · rw [t]
      rcases t2.out with q | q
      · exact .inl q
      · exact .inr ⟨_, q, s1⟩
    · exact .inr ⟨_, t, Nat.le_trans s1 s2⟩
end
end Go.Proofs.YtnkfpiccfmdllaaDoor
