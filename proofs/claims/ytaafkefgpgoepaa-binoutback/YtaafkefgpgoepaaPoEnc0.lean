/- What an answer of package binout is told of, over all statuses, and what the walk of Encode carries. Conditions: as each says. -/
import Derived.Test.YtaafkefgpgoepaaPoTold
import Derived.Test.YtaafkefgpgoepaaPoHead
namespace Go.Proofs.Ytaafkefgpgoepaa
set_option linter.unusedVariables false
set_option linter.unusedSimpArgs false
open Go.RowKit Go.Shelf

theorem ptold_any {w : World} {f : Fv} {ta ka : Option Addr} {tc kc : Nat} {c : Cv} {va : Option Addr} {vc : Nat} {x : Rv} {ya : Option Addr} {yc : Nat} (hy : Bu w ya x.val.length yc x.val) (hk : c.key.size ≤ 1000) (ok : x.ok) :
    Calls Try.prog 17 #[.agg (fmC f ta tc ka kc), .agg (cmC c va vc), .agg (rsC x ya yc)] w fun e w' => RdP f c x w e w' := by
  obtain ⟨s, val, fl, cas, ttl, num, st, won, lost⟩ := x
  have hf : 0 ≤ fl ∧ fl < 4294967296 := ⟨ok.f0, ok.f1⟩
  have hu : 0 ≤ num ∧ num < 18446744073709551616 := ⟨ok.n0, ok.n1⟩
  rcases stat_ways s with rfl | rfl | rfl | rfl | ⟨h0, h7, h2, h11⟩
  · by_cases h : f.code = 12
    · exact ptold_hit12 (s := 0) hy hk hf hu h
    · by_cases h' : f.code = 13
      · exact ptold_hit13 (s := 0) hy hk hf hu h'
      · exact ptold_hit (s := 0) hy hk hf hu (by omega)
  · exact ptold_num (s := 0) hy hk hf hu
  · exact ptold_put (s := 0) hy hk hf hu
  · exact ptold_ver (s := 0) hy hk hf hu
  · exact ptold_other hy hk hf hu h0 h7 h2 h11
theorem keyA_le (c : Int) {key : ByteArray} (h : key.size ≤ 1000) : (keyA c key).data.toList.length ≤ 1000 := by
  unfold keyA
  split
  · split
    · omega
    · exact h
  · exact Nat.zero_le _
theorem toldX_le (x : Rv) : (toldX x).length ≤ 255 := by
  unfold toldX
  split
  · rw [be_len]; decide
  · exact Nat.zero_le _
theorem toldK_le (f : Fv) {c : Cv} (x : Rv) (h : c.key.size ≤ 1000) : (toldK f c x).length ≤ 1000 := by
  unfold toldK
  split
  · exact keyA_le _ h
  · exact Nat.zero_le _
theorem toldV_le {x : Rv} (h : x.val.length ≤ 2000) : (toldV x).length ≤ 2000 := by
  unfold toldV
  split
  · exact h
  · split
    · rw [be_len]; decide
    · split
      · simp
      · exact Nat.zero_le _
theorem toldC_bd {x : Rv} (ok : x.ok) : 0 ≤ toldC x ∧ toldC x < 18446744073709551616 := by
  unfold toldC
  split
  · exact ⟨ok.c0, ok.c1⟩
  · decide
theorem oneA_told {f : Fv} {c : Cv} {x : Rv} (h : hushA f.quiet c.op x.s = false) : oneA f c x = packA f.code f.opq (codeN x.s) (toldC x) (toldX x) (toldK f c x) (toldV x) := by
  rcases stat_ways x.s with hs | hs | hs | hs | ⟨h0, h7, h2, h11⟩
  · rw [oneA_hit h hs]
    unfold toldC toldX toldK toldV
    simp only [hs, if_true, true_or]
  · rw [oneA_num h hs]
    unfold toldC toldX toldK toldV
    simp [hs]
  · rw [oneA_put h hs]
    unfold toldC toldX toldK toldV
    simp [hs]
  · rw [oneA_ver h hs]
    unfold toldC toldX toldK toldV
    simp [hs]
  · rw [oneA_bare h h0 h7 h2 h11]
    obtain ⟨e1, e2, e3, e4⟩ := told_other (f := f) (c := c) h0 h7 h2 h11
    rw [e1, e2, e3, e4]
theorem hush_is (q : Bool) (op s : Int) : hushA q op s = (q && wontA op s) := rfl
/-- A row stored into a block that was made since. -/
theorem st_row {w W : World} {a : Nat} {old : Array Value} {t : TypeId} (cs : Array Value) (h : W.heap[a]? = some (.cells old t (0, 0))) (hb : w.heap.size ≤ a) (g : w.grownBy W none) :
    (W.setRow a cs).heap[a]? = some (.cells cs t (0, 0)) ∧ w.grownBy (W.setRow a cs) none ∧ ∀ k, k ≠ a → (W.setRow a cs).heap[k]? = W.heap[k]? :=
  ⟨setRow_heap W a old cs _ _ h, ⟨g.os, g.tape, g.output, by rw [size_setRow]; exact g.size, fun k hk hn => (setRow_other W a k _ (by omega)).trans (g.block k hk hn)⟩, fun k hk => setRow_other W a k _ hk⟩
/-- Two blocks made, each then stored into. -/
theorem st_two {w U : World} {p k : Nat} {z1 z2 : Array Value} {t1 t2 : TypeId} (c1 c2 : Array Value) (g : w.grownBy U none) (h1 : U.heap[p]? = some (.cells z1 t1 (0, 0))) (h2 : U.heap[k]? = some (.cells z2 t2 (0, 0))) (b1 : w.heap.size ≤ p) (b2 : w.heap.size ≤ k) (ne : p ≠ k) :
    w.grownBy (U.setRow p c1) none ∧ (U.setRow p c1).heap[k]? = some (.cells z2 t2 (0, 0)) ∧ w.grownBy ((U.setRow p c1).setRow k c2) none ∧ ((U.setRow p c1).setRow k c2).heap[p]? = some (.cells c1 t1 (0, 0)) ∧ ((U.setRow p c1).setRow k c2).heap[k]? = some (.cells c2 t2 (0, 0)) := by
  obtain ⟨r1, g1, o1⟩ := st_row c1 h1 b1 g
  have h3 := (o1 k ne.symm).trans h2
  obtain ⟨r2, g2, o2⟩ := st_row c2 h3 b2 g1
  exact ⟨g1, h3, g2, (o2 p ne).trans r1, r2⟩
/-- Two blocks made, one behind the other. -/
theorem al_two {w W : World} {z1 z2 : Array Value} {t1 t2 : TypeId} (g : w.grownBy W none) : w.grownBy ((W.alloc (.cells z1 t1)).alloc (.cells z2 t2)) none ∧ ((W.alloc (.cells z1 t1)).alloc (.cells z2 t2)).heap[W.heap.size]? = some (.cells z1 t1 (0, 0)) ∧ ((W.alloc (.cells z1 t1)).alloc (.cells z2 t2)).heap[(W.alloc (.cells z1 t1)).heap.size]? = some (.cells z2 t2 (0, 0)) ∧ w.heap.size ≤ W.heap.size ∧ w.heap.size ≤ (W.alloc (.cells z1 t1)).heap.size ∧ W.heap.size ≠ (W.alloc (.cells z1 t1)).heap.size := by
  have g1 : W.grownBy (W.alloc (.cells z1 t1)) none := World.grownBy_alloc _ _ _
  have g2 : (W.alloc (.cells z1 t1)).grownBy ((W.alloc (.cells z1 t1)).alloc (.cells z2 t2)) none := World.grownBy_alloc _ _ _
  have r := World.alloc_heap_new W (.cells z1 t1)
  have s : (W.alloc (.cells z1 t1)).heap.size = W.heap.size + 1 := World.size_alloc _ _
  have s0 := g.size
  exact ⟨gr_trans g (gr_trans g1 g2), (g2.block _ (Array.getElem?_eq_some_iff.1 r).1 (by simp)).trans r, World.alloc_heap_new _ _, s0, by omega, by omega⟩
/-- The cells of a command and of a result that hold nothing. -/
def zC : Array Value := #[.int .i64 0, .string ⟨#[]⟩, .slice none 0 0, .int .u32 0, .int .i64 0, .int .u64 0, .int .u64 0, .int .u64 0, .bool false, .bool false]
def zR : Array Value := #[.int .i64 0, .slice none 0 0, .int .u32 0, .int .u64 0, .int .i64 0, .int .u64 0, .bool false, .bool false, .bool false]
end Go.Proofs.Ytaafkefgpgoepaa
