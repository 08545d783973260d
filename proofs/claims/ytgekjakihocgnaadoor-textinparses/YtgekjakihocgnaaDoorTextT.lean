/- How package textin reads a line's words, whatever they are, and what it refuses. Conditions: the listed variables hold what the program's text lays; at most 5000 words of at most 140737488351232 bytes. -/
import Derived.Test.YtgekjakihocgnaaDoorTextS
import Derived.Test.YtgekjakihocgnaaDoorStepC
import Derived.Test.YtgekjakihocgnaaDoorG03Joined
namespace Go.Proofs.YtgekjakihocgnaaDoor
set_option linter.unusedVariables false
open Go.RowKit

theorem parts_len (op : Int) (v : List UInt8) (ws : List (List UInt8)) : (partsN op v ws).length ≤ ws.length + 5 := by
  unfold partsN
  repeat' split
  all_goals simp
  all_goals omega
theorem quiet_len {op : Int} {ws : List (List UInt8)} {many : Nat} (h : quietN op ws many = true) : ws.length = many + 1 := by
  unfold quietN at h
  simp only [Bool.and_eq_true, decide_eq_true_eq] at h
  exact h.1.2
section
variable {wB w : World} {D : Nat} {a : Option Addr} {len cap : Nat} {ws : List (List UInt8)}
theorem read_any (hL : Laid wB) (H : Dr wB w.heap.size D w zeroD) (hW : Wu (fun b => b ≠ D) w a len cap ws) (hl : len ≤ 5000) (hb : ∀ y ∈ ws, y.length ≤ 140737488351232) : Calls Tryd.prog 11 #[.pointer (some ⟨D, 0, none⟩), .slice a len cap] w fun e w' => ReadsEnd wB D w (readN ws) e w' := by
  cases ws with
  | nil =>
    obtain rfl : len = 0 := hW.n.symm
    exact read_nil H a cap
  | cons x ws =>
    rw [show readN (x :: ws) = if opN x = none then (begun x, t_ERROR) else behindN x ws from rfl]
    cases hop : opN x with
    | none =>
      rw [if_pos rfl]
      exact read_none H hW hop
    | some op =>
      rw [if_neg (by simp)]
      have hn := hW.n
      rw [List.length_cons] at hn
      obtain ⟨ks, hks⟩ : ∃ ks, ks = partsN (begun x).op (begun x).verb ws := ⟨_, rfl⟩
      have hkl : ks.length ≤ 6000 := by have := parts_len (begun x).op (begun x).verb ws; rw [← hks] at this; omega
      have hb2 : ∀ y ∈ ws, y.length ≤ 140737488351232 := fun y hy => hb y (List.mem_cons_of_mem _ hy)
      unfold behindN
      simp only []
      rw [show (begun x).verb = x from rfl] at hks
      rw [← hks]
      cases hq : quietN (begun x).op ws ks.length
      · simp only [Bool.false_eq_true, if_false]
        by_cases he : ws.length = ks.length
        · rw [if_pos he]
          exact read_loud hL H hW hl hb2 hop hks hkl hq he
        · rw [if_neg he]
          exact read_few hL H hW hl hb2 hop hks hkl hq he
      · simp only [if_true]
        have he := quiet_len hq
        rw [if_pos (by rw [List.length_take]; omega)]
        exact read_quiet hL H hW hl hb2 hop hks hkl hq he
end
/-- A step that lies in a block is what is answered. -/
theorem step_ret {fn : Func} {W : World} {r : Nat} {cs : Array Value} {tmps : Array Value} {p : Tmp} {Post : Ending → World → Prop} (hf : fn.results = #[.cell p 34]) (hb : W.heap[r]? = some (.cells cs 34 (0, 0))) (h4 : tmps.getD p undef = .pointer (some ⟨r, 0, none⟩)) (hz : cs.size = 16)
    (h : Post (.returned (.agg cs)) W) : bodyPost Tryd.prog fn Post .ret { tmps := tmps, defers := [] } W :=
  bodyPost_ret (results_cell_row hf tmps W r 34 cs (0, 0) _ h4 hb Tryd.underlying34 rfl (by rw [hz]; kernel_rfl)) rfl h
theorem str_app (a b : List UInt8) : (⟨a.toArray⟩ ++ ⟨b.toArray⟩ : ByteArray) = mkB (a ++ b) := by
  apply ByteArray.ext
  rw [ByteArray.data_append]
  simp [mkB]
set_option maxRecDepth 100000 in
set_option maxHeartbeats 1000000 in
theorem refuse_any (f : List UInt8) (hf : f.length ≤ 1000) (used : Int) (w : World) : Calls Tryd.prog 10 #[.string (mkB f), .int .i64 used] w fun e w' => e = .returned (.agg (stC (refuseS f used) none 0 none 0 none 0)) ∧ w.grownBy w' none := by
  have hg := World.grownBy_alloc w (.cells (stC (refuseS f used) none 0 none 0 none 0) 34) none
  have HE : Hid (stC (refuseS f used) none 0 none 0 none 0 = #[.slice none 0 0, .int .i64 0, .string ⟨#[]⟩, .int .i64 0, .int .u32 0, .bool false, .bool false, .string ⟨#[]⟩, .slice none 0 0, .slice none 0 0, .bool false, .string (⟨f.toArray⟩ ++ ⟨#[13, 10]⟩), .int .i64 used, .int .i64 0, .bool false, .int .i64 2]) := by
    show _ = _
    rw [show (⟨f.toArray⟩ ++ ⟨#[13, 10]⟩ : ByteArray) = mkB (f ++ t_end) from str_app f t_end]
    rfl
  have hl : ¬ 9223372036854775807 < f.length + 2 := by omega
  clear hf
  simp only [mkB]
  go_enter Tryd.func10, Tryd.ntmps10
  go_wp2_with (refine wpList_store_row rfl 34 _ _ rfl w.heap.size (stC (refuseS f used) none 0 none 0 none 0) rfl (by rw [HE.out]; rfl) _ (stC noS none 0 none 0 none 0) (World.alloc_heap_new w _) (step_size _ _ _ _ _ _ _) rfl (step_one _ _ _ _ _ _ _) ?_; rw [setRow_alloc])
  exact step_ret rfl (World.alloc_heap_new w _) rfl rfl ⟨rfl, hg⟩
end Go.Proofs.YtgekjakihocgnaaDoor
