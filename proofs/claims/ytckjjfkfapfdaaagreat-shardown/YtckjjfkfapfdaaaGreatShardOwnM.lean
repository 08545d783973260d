/- One item in an empty shard, over lists alone; a cell of a row is written. Conditions: none. -/
import Derived.Test.YtckjjfkfapfdaaaGreatShardAw
namespace Go.Proofs.YtckjjfkfapfdaaaGreat
open Go.RowKit Go.Shelf

theorem own_store (i : Iv) (hz : sizeI i ≤ 2048) (he : i.exp = 0) : ∃ st ck, (storeH 1 (freshH 100000 3) i env1).1 = 0 ∧ (storeH 1 (freshH 100000 3) i env1).2 = st ∧ st.ents = [(i, ck)] ∧ livingH st i.key env1 = some (i, ck) ∧ lookH st i.key env1 = st := by
  have hf : fitsS (freshS 100000) (sizeI i) (lessH none) = true := by
    unfold fitsS
    rw [decide_eq_true_eq]
    have hb := bytes_le (clsOf (sizeI i) : Int)
    refine ⟨hz, Int.le_refl _, Int.le_refl _, ?_⟩
    show usedS (freshS 100000) - 0 + bytesC (clsOf (sizeI i)) ≤ 100000
    have : usedS (freshS 100000) = 0 := rfl
    omega
  have l1 : livingH (freshH 100000 3) i.key env1 = none := rfl
  have l2 : lookH (freshH 100000 3) i.key env1 = freshH 100000 3 := rfl
  have hr : roomH 1 i none env1 (freshH 100000 3) = (0, freshH 100000 3) := by
    unfold roomH roomN
    have : (freshH 100000 3).slab = freshS 100000 := rfl
    rw [this, if_pos hf]
  have e1 : storeH 1 (freshH 100000 3) i env1 = (0, putH (freshH 100000 3) i none) := by
    unfold storeH
    rw [if_neg (by omega), l1, l2, hr]
    rfl
  have e2 : (putH (freshH 100000 3) i none).ents = [(i, takeCk (freedH (freshH 100000 3) none) (sizeI i))] := rfl
  have hl : liveI i env1 = true := by simp [liveI, liveN, env1, he]
  have hfi : findE i.key (putH (freshH 100000 3) i none).ents = some (i, takeCk (freedH (freshH 100000 3) none) (sizeI i)) := by
    rw [e2]
    simp [findE]
  refine ⟨_, _, by rw [e1], by rw [e1], e2, ?_, ?_⟩
  · unfold livingH
    rw [hfi]
    simp [hl]
  · unfold lookH
    rw [hfi]
    simp [hl]
/-- A cell of the first part's row is written. -/
theorem Law.rowSet {w0 w : World} {R : Part} {n0 g n cap size : Nat} {e : TypeId} {xs : List Value} (H : Law w0 w ((rowP n0 e size (.slice (some ⟨g, 0, none⟩) n cap) n xs).and R)) (j : Nat) (u : Value) : Law w0 (w.setCell ⟨g, j, none⟩ u) ((rowP n0 e size (.slice (some ⟨g, 0, none⟩) n cap) n (xs.set j u)).and R) := by
  have h : w.ownsRow n0 e size (.slice (some ⟨g, 0, none⟩) n cap) n xs := H.q.1
  obtain ⟨h1, h2⟩ := h.stored j u
  exact H.app0 h1 h2 (.inl rfl)
section
variable {Sh : World → Nat → (Nat → Prop) → Nat → Nat → Hs → Prop} {w0 w w' : World} {b sd n : Nat} {own own' : Nat → Prop} {st st' : Hs} {R : Part}
/-- Bytes of one's own beside the shard may be read. -/
theorem Law.readOwn {L : ShardLib Sh} {a : Option Addr} {c : Nat} {l : List UInt8} (H : Law w0 w ((shQ L b own sd n st).and ((valP 0 a c l).and R))) : ReadAt w own a c l :=
  ⟨ValAt.bs H.q.2.1.1, fun k _ hk ho => H.q.2.2 k ho (.inl hk)⟩
/-- A look at what lives. -/
theorem shLook_some (L : ShardLib Sh) (H : Law w0 w ((shQ L b own sd n st).and R)) (hn : n ≤ 900) (s : ByteArray) (hs : s.size ≤ 300) (en : En) (hen : en.ok) (y : Ent) (t : Hs) (hy : livingH st s en = some y) (ht : lookH st s en = t) :
    Calls Tryz.prog 25 #[.pointer (some ⟨b, 0, none⟩), .string s, .agg (enC en)] w fun e w' => ∃ a c, e = .returned (.tuple #[.agg (itC (itOf y.1 a c)), .bool true]) ∧ ∃ own', Law w0 w' ((shQ L b own' sd n t).and ((valP 0 a c y.1.val).and R)) := by
  refine (shLook_is L H hn s hs en hen).mono ?_
  rintro e w' (⟨h1, h2, own', h3⟩ | ⟨y', a, c, h1, h2, own', h3⟩)
  · rw [h1] at hy
    cases hy
  · rw [h1] at hy
    cases hy
    subst ht
    exact ⟨a, c, h2, own', h3⟩
end
/-- Bytes that came in. -/
theorem isRow_bs {w : World} {a : Option Addr} {len cap : Nat} {zs : List Int} (h : IsRow .u8 w a len cap zs) : ∃ u : List UInt8, u.length = len ∧ Bs w a len cap (ints u) ∧ len ≤ maxLen ∧ cap ≤ maxLen ∧ len ≤ cap := by
  rcases h with ⟨rfl, rfl, rfl, rfl⟩ | ⟨x, rfl, h2, h3, h4, h5, h6⟩
  · exact ⟨[], rfl, .inl ⟨rfl, rfl, fun _ => rfl⟩, Nat.zero_le _, Nat.zero_le _, Nat.le_refl _⟩
  · obtain ⟨u, hu⟩ := ints_of (l := zs.take len) fun z hz => h6 z (List.mem_of_mem_take hz)
    have hul : u.length = len := by rw [← ints_len, ← hu, List.length_take]; omega
    refine ⟨u, hul, ?_, by omega, h3, h2⟩
    rw [← hu]
    by_cases h0 : len = 0
    · exact .inl ⟨h0, by rw [h0]; rfl, fun e => by cases e⟩
    · have c0 := h5 0 (by omega)
      have hspot : x.spot = none := by simpa [Addr.add] using World.cell?_spot c0
      obtain ⟨b, off, spot⟩ := x
      simp only at hspot
      subst hspot
      refine .inr ⟨b, off, rfl, by omega, h2, by rw [List.length_take]; omega, fun z hz' => u8_wf (h6 z (List.mem_of_mem_take hz')), fun i hi => ?_, ?_⟩
      · have h1 := h5 i (by omega)
        rw [add_at] at h1
        rw [h1]
        congr 2
        simp [List.getD, hi]
      · rw [add_at] at c0
        exact block_lt_of_cell c0
/-- A cell of a row of bytes may be written. -/
theorem row_byte {w : World} {n0 g n cap : Nat} {xs : List Value} (h : w.ownsRow n0 5 1 (.slice (some ⟨g, 0, none⟩) n cap) n xs) (k : Nat) (hk : k < n) : (∃ x, w.cell? ⟨g, k, none⟩ = some x) ∧ w.frozen? ⟨g, k, none⟩ = false := by
  have hl := h.1
  refine ⟨⟨xs[k]'(by omega), ?_⟩, h.frozenAt k⟩
  rw [h.cellAt k (by omega)]
  exact List.getElem?_eq_getElem _
end Go.Proofs.YtckjjfkfapfdaaaGreat
