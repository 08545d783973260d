/- The iterator that All of package table answers. Conditions: at most 50000 entries. -/
import Derived.Test.YtncblaofgdcfmaaTableSort
import Derived.Test.YtncblaofgdcfmaaRangeKit
import Derived.Maps.OwnIn
namespace Go.Proofs.Ytncblaofgdcfmaa
open Go.RowKit Go.Shelf
attribute [local go_sem] Oper.semAt_some

/-- Blocks that lie as they lay. -/
def KpT (own : Nat → Prop) (w V : World) : Prop := ∀ k, own k → k < V.heap.size ∧ V.heap[k]? = w.heap[k]?
theorem KpT.step {own fp : Nat → Prop} {w V V' : World} (h : KpT own w V) (hg : Gr fp V V') (hf : ∀ k, fp k → k < V.heap.size ∧ ¬ own k) : KpT own w V' := fun k hk => ⟨Nat.lt_of_lt_of_le (h k hk).1 hg.size, (hg.block k (h k hk).1 fun hfk => (hf k hfk).2 hk).trans (h k hk).2⟩
theorem KpT.grown {own : Nat → Prop} {w V V' : World} (h : KpT own w V) (hg : V.grownBy V' none) : KpT own w V' := fun k hk => ⟨Nat.lt_of_lt_of_le (h k hk).1 hg.size, (hg.block k (h k hk).1 (by simp)).trans (h k hk).2⟩
theorem boxT_cell {w : World} {k : Nat} {t : TypeId} {v : Value} (h : w.heap[k]? = some (.cells #[v] t)) : w.cell? ⟨k, 0, none⟩ = some v := by
  simp [World.cell?, h]
set_option maxRecDepth 100000 in
set_option maxHeartbeats 4000000 in
theorem told_seq (n : Nat) (hn : 1 ≤ n) {w : World} {bv n0 : Nat} {v : Value} {xs : List Kv} (hx : xs.length ≤ 50000) (hbv : w.heap[bv]? = some (.cells #[v] 61)) (hr : w.ownsRow n0 63 2 v xs.length (enV xs)) :
    SeqSep Fence.wide n Try.prog 41 #[.pointer (some ⟨bv, 0, none⟩)] kvEnc (fun k => k = bv ∨ v.ownBlock = some k) (fun ys => ys = xs) (fun pre => pre <+: xs) xs.length w := by
  intro l J Jx fp0 W hW hJ hJx hfp hY h0
  have hbl : bv < w.heap.size := (Array.getElem?_eq_some_iff.1 hbv).1
  have K0 : KpT (fun k => k = bv ∨ v.ownBlock = some k) w W := fun k hk => by
    have hk' : k < w.heap.size := hk.elim (fun e => e ▸ hbl) fun h => (own_at hr h).2.1
    exact ⟨Nat.lt_of_lt_of_le hk' hW.size, hW.block k hk'⟩
  have r_on : ∀ V, KpT (fun k => k = bv ∨ v.ownBlock = some k) w V → V.ownsRow n0 63 2 v xs.length (enV xs) := fun V hV => own_same hr fun k hk => (hV k (.inr hk)).2
  obtain ⟨a, cap, rfl⟩ := own_shape hr
  have c0 : W.cell? ⟨bv, 0, none⟩ = some (.slice a xs.length cap) := boxT_cell ((K0 bv (.inl rfl)).2.trans hbv)
  obtain ⟨len, hlen⟩ : ∃ m, xs.length = m := ⟨_, rfl⟩
  rw [hlen] at c0 hY hx K0 r_on hfp
  refine callsIn_of_wp Try.func41 rfl trivial ?_ rfl
  simp only [Try.ntmps41, List.size_toArray, List.length_cons, List.length_nil, Nat.reduceAdd, Nat.reduceSub, Array.replicate_succ, Array.replicate_zero, List.push_toArray, List.append_toArray, List.nil_append, List.cons_append]
  gi_wp2
  gi_loopw [4, 7] (fun _ i wr => ∃ (k : Nat) (fp : Nat → Prop), k ≤ len ∧ i = .int .i64 k ∧ KpT (fun k => k = bv ∨ (Value.slice a len cap).ownBlock = some k) w wr ∧ J (xs.take k) wr fp) (fun _ i _ => len - (intOf i).toNat)
  case atStart => exact ⟨0, fp0, Nat.zero_le _, rfl, K0, h0⟩
  case round =>
    clear h0 K0 c0
    obtain ⟨k, fp, hk, rfl, K2, h2⟩ := hrel
    by_cases hlt : k < len
    · have hki : (k : Int) < (len : Int) := by omega
      have hkl : k < xs.length := by omega
      obtain ⟨g, cap', e⟩ := own_form (r_on _ K2) (by omega)
      cases e
      have hp : xs[k]? = some xs[k] := List.getElem?_eq_getElem hkl
      obtain ⟨k1, k2⟩ := enV_at hp
      have c1 := ((r_on _ K2).cellAt (k * 2) (by omega)).trans k1
      have c2 := ((r_on _ K2).cellAt (k * 2 + 1) (by omega)).trans k2
      have hga := World.grownBy_alloc wr (.cells #[.string xs[k].1, .int .i64 xs[k].2] 63) none
      have hfp2 := hfp _ _ _ h2
      have h3 := hJ _ _ (wr.alloc (.cells #[.string xs[k].1, .int .i64 xs[k].2] 63)) _ h2 ⟨hga.1, hga.2, hga.3, hga.4, fun j hj _ => hga.5 j hj (by simp)⟩ (fun j hj => hga.5 j (hfp2 j hj).1 (by simp))
      have K3 := K2.grown hga
      obtain ⟨fn, tmps, assign, body, hy, hR⟩ := hY _ xs[k] _ fp h3 (by rw [List.length_take]; omega)
      have e1 : xs.take k ++ [xs[k]] = xs.take (k + 1) := by rw [List.take_add_one, List.getElem?_eq_getElem hkl]; rfl
      rw [e1] at hR
      have hfp3 := hfp _ _ _ h3
      unfold kvEnc at hy
      clear hp k1 k2 hga hfp2 h2
      generalize xs[k] = x at *
      obtain ⟨x1, x2⟩ := x
      gi_wp2
      refine hR.mono ?_
      rintro e W3 ⟨fp4, g4, -, ⟨rfl, h4⟩ | ⟨rfl, h4⟩⟩
      · have K4 := K3.step g4 hfp3
        gi_wp2
        go_roundw
        case rel => exact ⟨k + 1, fp4, by omega, by go_num, K4, h4⟩
        case measure => simp [intOf]; omega
      · gi_wp2
        refine bodyPost_ret (results_none rfl _ _ _) rfl ?_
        exact ⟨⟨_, rfl⟩, .inr ⟨_, fp4, List.take_prefix _ _, h4⟩⟩
    · obtain rfl : k = len := by omega
      have e1 : xs.take k = xs := List.take_of_length_le (by omega)
      gi_wp2
      go_end0
      exact ⟨⟨_, rfl⟩, .inl ⟨_, fp, e1, h2⟩⟩
end Go.Proofs.Ytncblaofgdcfmaa
