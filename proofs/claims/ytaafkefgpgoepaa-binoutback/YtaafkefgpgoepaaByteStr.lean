/- A text's bytes appended to a row of one's own. Conditions: appends of at most 100000000 bytes. -/
import Derived.Test.YtaafkefgpgoepaaG01Joined
import Derived.Deep.AppendSrc
namespace Go.Proofs.Ytaafkefgpgoepaa
open Go.RowKit

theorem byU_app2 (l m : List UInt8) : byU (l ++ m) = byU l ++ byU m := by simp [byU, byV, ints]
theorem byteCells_byU (s : ByteArray) : byteCells s = byU s.data.toList := by simp [byU, byV, ints, byteCells]
theorem run_append_str (w : World) (base : Nat) (ty : TypeId) {v : Value} {n : Nat} {l : List UInt8} (hown : w.ownsRow base 5 1 v n (byU l)) (s : ByteArray) (hn : n + s.size ≤ 100000000) (hb : base ≤ w.heap.size) :
    ∃ v' w', (Builtin.append_ #[32, 9] ty #[v, .string s]).run Try.prog w = .ok v' w' ∧ w'.ownsRow base 5 1 v' (n + s.size) (byU (l ++ s.data.toList)) ∧ w.grownBy w' v.ownBlock ∧ (v'.ownBlock = v.ownBlock ∨ v'.ownBlock = some w.heap.size) := by
  obtain ⟨i0, hi, hz0, hz1, hz2⟩ := info_parts info_byte
  have hs : Src Try.prog i0.size 9 (.string s) s.size (byteCells s) w := by rw [hz1]; exact Src.ofString w Try.underlying9 s
  have hcl : (byteCells s).length = s.size := byteCells_length s
  rw [byU_app2, ← byteCells_byU]
  generalize hxs : byU l = xs at *
  have hlen : (xs ++ byteCells s).length = (n + s.size) * 1 := by rw [List.length_append, hown.1, hcl]; omega
  have hml : 100000000 ≤ maxLen := by decide
  have grown : ∀ (old : Nat), old < n + s.size → ∀ (row : Option Nat),
      (w.drew.alloc (.cells ((xs ++ byteCells s).toArray ++ Builtin.zeroCells (Value.int .u8 0).cells (grownCap w (n + s.size) old 5 - (n + s.size))) 5)).ownsRow base 5 1
        (.slice (some ⟨w.heap.size, 0, none⟩) (n + s.size) (grownCap w (n + s.size) old 5)) (n + s.size) (xs ++ byteCells s) ∧
      w.grownBy (w.drew.alloc (.cells ((xs ++ byteCells s).toArray ++ Builtin.zeroCells (Value.int .u8 0).cells (grownCap w (n + s.size) old 5 - (n + s.size))) 5)) row := by
    intro old ho row
    have hge := grownCap_ge w (n + s.size) old 5
    have hcm := grownCap_le_maxLen w (n + s.size) old 5 (by omega)
    refine ⟨⟨hlen, .inr ⟨w.heap.size, _, _, rfl, hb, World.alloc_heap_new w.drew _, hge, hcm, ?_, ?_⟩⟩, ⟨rfl, rfl, rfl, by simp, fun k hk _ => heap_alloc_old w.drew _ hk⟩⟩
    · rw [Array.size_append, List.size_toArray, size_zeroCells, hlen]
      show (n + s.size) * 1 + (_ - _) * 1 = _
      omega
    · rw [Array.toList_append, ← hlen]
      exact List.take_left
  rcases hown.2 with ⟨rfl, rfl⟩ | ⟨g, cap, cur, rfl, hbg, hg, hnc, hcm, hcs, htake⟩
  · have hx : xs = [] := List.eq_nil_of_length_eq_zero (by simpa using hown.1)
    subst hx
    by_cases h0 : s.size = 0
    · have hn0 : byteCells s = [] := List.eq_nil_of_length_eq_zero (by rw [hcl, h0])
      refine ⟨.slice none 0 0, w, ?_, by rw [hn0, h0]; exact World.ownsRow_nil w base _ 1, gr_refl _ _, .inl rfl⟩
      have hl0 := hs.len w
      have hf0 := hs.cells
      rw [hn0, h0] at hf0
      rw [h0] at hl0
      simp [Builtin.append_, run_underlying Try.underlying32, run_underlying Try.underlying9, sizeOf, typeInfo, hi, hl0, hf0]
    · have hold : (Builtin.firstCells i0.size 0 (.slice none 0 0)).run Try.prog w.drew = .ok ([] : List Value).toArray w.drew := run_firstCells_none w.drew i0.size 0 0 0
      have hr := run_append_grow_src (P := Try.prog) w 32 9 ty 5 i0 (.int .u8 0) Try.underlying32 hi hz0 none 0 0 [] hold (.string s) s.size (byteCells s) hs (by omega) (by omega) (by rw [hz2]; exact growslice_fits (by omega) (by omega))
      have hgr := grown 0 (by omega) (Value.ownBlock (.slice none 0 0))
      simp only [Nat.zero_add] at hgr hr ⊢
      exact ⟨_, _, hr, hgr.1, hgr.2, .inr rfl⟩
  · by_cases hroom : n + s.size ≤ cap
    · have hfit : n * 1 + (byteCells s).length ≤ cur.size := by rw [hcl, hcs]; omega
      have hst := run_storeCells_at Try.prog g (n * 1) 5 (byteCells s) 0 cur w hg (by simpa using hfit) hs.one
      have hc := hs.cells
      rw [hz1] at hc
      simp only [Nat.add_zero] at hst
      have hr : (Builtin.append_ #[32, 9] ty #[.slice (some ⟨g, 0, none⟩) n cap, .string s]).run Try.prog w = .ok (.slice (some ⟨g, 0, none⟩) (n + s.size) cap) (w.setRow g (cur.toList.take (n * 1) ++ byteCells s ++ cur.toList.drop (n * 1 + (byteCells s).length)).toArray) := by
        simp only [Nat.mul_one] at hst hc
        simp [Builtin.append_, run_underlying Try.underlying32, run_underlying Try.underlying9, sizeOf, typeInfo, hi, hz1, hs.len, hroom, hc, Addr.add_lit, hst]
      refine ⟨_, _, hr, ⟨hlen, .inr ⟨g, cap, _, rfl, hbg, setRow_heap w g cur _ _ _ hg, hroom, hcm, ?_, ?_⟩⟩, ⟨rfl, rfl, rfl, by simp, fun k _ hk => setRow_other w g k _ (fun e => hk (by simp [Value.ownBlock, e]))⟩, .inl rfl⟩
      · simp only [List.size_toArray, List.length_append, List.length_take, List.length_drop, Array.length_toList]
        omega
      · rw [htake, ← hlen]
        exact List.take_left
    · have holds : ∀ j u, xs[j]? = some u → w.drew.cell? ((⟨g, 0, none⟩ : Addr).add j) = some u := hown.cells (g := g) rfl
      have hold : (Builtin.firstCells i0.size n (.slice (some ⟨g, 0, none⟩) n cap)).run Try.prog w.drew = .ok xs.toArray w.drew := run_firstCells_some w.drew i0.size n ⟨g, 0, none⟩ n cap xs (by rw [hz1]; exact hown.1) holds
      have hr := run_append_grow_src (P := Try.prog) w 32 9 ty 5 i0 (.int .u8 0) Try.underlying32 hi hz0 (some ⟨g, 0, none⟩) n cap xs hold (.string s) s.size (byteCells s) hs (by omega) (by omega) (by rw [hz2]; exact growslice_fits (by omega) (by omega))
      have hgr := grown cap (by omega) (Value.ownBlock (.slice (some ⟨g, 0, none⟩) n cap))
      exact ⟨_, _, hr, hgr.1, hgr.2, .inr rfl⟩
theorem own_up {n0 n : Nat} {e : TypeId} {w w' : World} {v : Value} {xs : List Value} (h : w.ownsRow n0 e 1 v n xs) (hg : w.grownBy w' none) : w'.ownsRow n0 e 1 v n xs := own_same h fun k hk => hg.block k (own_at h hk).2.1 (by simp)
theorem wpList_append_str {w : World} {ops : Array Oper} {rest : List Oper} {o : Oper} {a : Act} {Q : Exit → Act → World → Prop} (hgd : o.guard = none) (x y : Operand) (ho : o.op = .call { callee := .builtin .append, args := #[x, y], argTypes := #[32, 9] })
    (base : Nat) (v : Value) (n : Nat) (l : List UInt8) (hx : a.eval x = v) (hown : w.ownsRow base 5 1 v n (byU l)) (s : ByteArray) (hy : a.eval y = .string s) (hn : n + s.size ≤ 100000000) (hb : base ≤ w.heap.size)
    (h : ∀ v' w', w'.ownsRow base 5 1 v' (n + s.size) (byU (l ++ s.data.toList)) → w.grownBy w' v.ownBlock → (v'.ownBlock = v.ownBlock ∨ v'.ownBlock = some w.heap.size) → wpList Try.prog ops Q rest (a.put o.dst v') w') :
    wpList Try.prog ops Q (o :: rest) a w := by
  refine wpList_plain hgd fun K hK => ?_
  obtain ⟨v', w', hr, h2, h3, h5⟩ := run_append_str w base o.type hown s hn hb
  unfold Oper.wp execOp
  simp only [ho, resolve, invoke, builtin, Sem.run_bind, Sem.run_pure, Result.andThen_ok, List.map_toArray, List.map_cons, List.map_nil, hx, hy, hr]
  exact hK _ _ (h v' w' h2 h3 h5)
end Go.Proofs.Ytaafkefgpgoepaa
