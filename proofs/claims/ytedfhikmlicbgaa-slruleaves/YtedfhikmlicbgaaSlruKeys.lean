/- The keys of a list, one by one, as package slru goes over them itself. Conditions: none. -/
import Derived.Test.YtedfhikmlicbgaaSlruOps
import Derived.Test.YtedfhikmlicbgaaRangeKit
import Derived.Sort.BigQuietIn
import Derived.Sort.CutIn
namespace Go.Proofs.Ytedfhikmlicbgaa
open Go.RowKit Go.Maps Go.Shelf
attribute [local go_sem] Oper.semAt_some

def toldK (tn sn : List Nk) : Nat → List ByteArray
  | 0 => []
  | 1 => keysN tn
  | _ => keysN (tn ++ sn)
/-- How many nodes are left, from a pointer on. -/
def restOf (l : List Nk) : Value → Nat
  | .pointer (some a) => l.length - (ids l).idxOf a.block
  | _ => 0
theorem restOf_at {A B : List Nk} {x : Nk} (h : (ids (A ++ x :: B)).Nodup) : restOf (A ++ x :: B) (firstP (x :: B)) = B.length + 1 := by
  have hx : ¬ x.1 ∈ ids A := fun hm => by
    obtain ⟨y, hy, e⟩ := List.mem_map.1 hm
    exact ids_ne h (.inl hy) e
  have e1 : (ids (A ++ x :: B)).idxOf x.1 = A.length := by
    unfold ids
    rw [List.map_append, List.idxOf_append, if_neg hx, List.map_cons, List.idxOf_cons_self, List.length_map]
    omega
  show (A ++ x :: B).length - (ids (A ++ x :: B)).idxOf x.1 = _
  rw [e1]
  simp
theorem restOf_less {A B : List Nk} {x : Nk} (h : (ids (A ++ x :: B)).Nodup) : restOf (A ++ x :: B) (firstP B) < restOf (A ++ x :: B) (firstP (x :: B)) := by
  rw [restOf_at h]
  cases B with
  | nil => exact Nat.lt_of_lt_of_le (Nat.lt_succ_self 0) (by simp)
  | cons y B =>
    have e : A ++ x :: y :: B = (A ++ [x]) ++ y :: B := by simp
    rw [e, restOf_at (by rw [← e]; exact h)]
    simp
/-- Blocks that lie as they lay. -/
def Kp (own : Nat → Prop) (w V : World) : Prop := ∀ k, own k → k < V.heap.size ∧ V.heap[k]? = w.heap[k]?
theorem Kp.step {own fp : Nat → Prop} {w V V' : World} (h : Kp own w V) (hg : Gr fp V V') (hf : ∀ k, fp k → k < V.heap.size ∧ ¬ own k) : Kp own w V' := fun k hk => ⟨Nat.lt_of_lt_of_le (h k hk).1 hg.size, (hg.block k (h k hk).1 fun hfk => (hf k hfk).2 hk).trans (h k hk).2⟩
theorem gr_drewN' (F : Nat → Prop) (w : World) (j : Nat) : Gr F w (w.drewN j) := ⟨rfl, rfl, rfl, Nat.le_refl _, fun _ _ _ => rfl⟩
/-- What is asked of the row of number k. -/
structure RowOf (b : Nat) (nd : Nat → Array Value) (tn sn : List Nk) (m : Int) (bm k off : Nat) (l : List Nk) : Prop where
  index : ∀ w : World, (Instr.index 65 (.agg #[.pointer (some ⟨b, 2, none⟩), .pointer (some ⟨b, 5, none⟩)]) (.int .i64 k)).run Try.prog w = .ok (.pointer (some ⟨b, off, none⟩)) w
  first : (headR m bm tn sn)[off]? = some (firstP l)
  chain : Chain b off nd l
  nodup : (ids l).Nodup
  sub : ∀ y ∈ l, y.1 ∈ ids (tn ++ sn)
  told : toldK tn sn (k + 1) = toldK tn sn k ++ keysN l
  pre : toldK tn sn k ++ keysN l <+: keysN (tn ++ sn)
theorem row_of {b : Nat} {nd : Nat → Array Value} {tn sn : List Nk} {m : Int} {bm k : Nat} (lk : Lk b nd (ids (tn ++ sn)) tn sn) (hk : k < 2) : ∃ off l, RowOf b nd tn sn m bm k off l := by
  have h : k = 0 ∨ k = 1 := by omega
  rcases h with rfl | rfl
  · refine ⟨2, tn, ⟨fun w => by kernel_rfl, rfl, lk.t, nodup_left lk.nodup, fun y hy => lk.sub y (List.mem_append_left _ hy), by simp [toldK], ?_⟩⟩
    show [] ++ keysN tn <+: _
    unfold keysN
    rw [List.nil_append, List.map_append]
    exact List.prefix_append _ _
  · refine ⟨5, sn, ⟨fun w => by kernel_rfl, rfl, lk.s, nodup_right lk.nodup, fun y hy => lk.sub y (List.mem_append_right _ hy), by simp [toldK, keysN], ?_⟩⟩
    show keysN tn ++ keysN sn <+: _
    unfold keysN
    rw [List.map_append]
    exact List.prefix_refl _
theorem pre_len {p q l : List ByteArray} {x : ByteArray} {r : List ByteArray} {N : Nat} (h : p ++ (q ++ x :: r) <+: l) (hl : l.length = N) : (p ++ q).length < N := by
  have := h.length_le
  simp at this ⊢
  omega
set_option maxRecDepth 100000 in
set_option maxHeartbeats 4000000 in
theorem keys_seq (n : Nat) (hn : 1 ≤ n) {w : World} {b bo bm : Nat} {m : Int} {D : DataW Value} {nd : Nat → Array Value} {tn sn : List Nk} (hq : (lsPart m b bm D nd tn sn).q w) (hlt : ∀ k, (lsPart m b bm D nd tn sn).own k → k < w.heap.size) (hbo : w.heap[bo]? = some (.cells #[.pointer (some ⟨b, 0, none⟩)] 25)) (lk : Lk b nd (ids (tn ++ sn)) tn sn) :
    SeqSep Fence.wide n Try.prog 33 #[.pointer (some ⟨bo, 0, none⟩)] keyEnc (fun k => (lsPart m b bm D nd tn sn).own k ∨ k = bo) (fun xs => xs = keysN (tn ++ sn)) (fun pre => pre <+: keysN (tn ++ sn)) (tn.length + sn.length) w := by
  intro l J Jx fp0 W hW hJ hJx hfp hY h0
  have hbl : bo < w.heap.size := (Array.getElem?_eq_some_iff.1 hbo).1
  have K0 : Kp (fun k => (lsPart m b bm D nd tn sn).own k ∨ k = bo) w W := fun k hk => by
    have hk' : k < w.heap.size := hk.elim (hlt k) fun e => e ▸ hbl
    exact ⟨Nat.lt_of_lt_of_le hk' hW.size, hW.block k hk'⟩
  have q_on : ∀ V, Kp (fun k => (lsPart m b bm D nd tn sn).own k ∨ k = bo) w V → (lsPart m b bm D nd tn sn).q V := fun V hV => (lsPart m b bm D nd tn sn).on w V hq fun k hk => (hV k (.inl hk)).2
  have c0 : W.cell? ⟨bo, 0, none⟩ = some (.pointer (some ⟨b, 0, none⟩)) := box_cell ((K0 bo (.inr rfl)).2.trans hbo) rfl
  refine callsIn_of_wp Try.func33 rfl trivial ?_ rfl
  simp only [Try.ntmps33, List.size_toArray, List.length_cons, List.length_nil, Nat.reduceAdd, Nat.reduceSub, Array.replicate_succ, Array.replicate_zero, List.push_toArray, List.append_toArray, List.nil_append, List.cons_append]
  gi_upto_region 0 with fail
  gi_big_quiet_th (fail)
  have K1 : Kp (fun k => (lsPart m b bm D nd tn sn).own k ∨ k = bo) w (W.drewN nq) := K0
  have h1 : J [] (W.drewN nq) fp0 := hJ _ _ _ _ h0 (gr_drewN' _ _ _) fun _ _ => rfl
  clear c0
  gi_wp2
  gi_loopw [13] (fun i wr => ∃ (k : Nat) (fp : Nat → Prop), k ≤ 2 ∧ i = .int .i64 k ∧ Kp (fun k => (lsPart m b bm D nd tn sn).own k ∨ k = bo) w wr ∧ J (toldK tn sn k) wr fp) (fun i _ => 2 - (intOf i).toNat)
  case atStart => exact ⟨0, fp0, Nat.zero_le _, rfl, K1, h1⟩
  case round =>
    clear h1 K1 h0 K0
    obtain ⟨k, fp, hk, rfl, K2, h2⟩ := hrel
    by_cases hk2 : k < 2
    · obtain ⟨off, L, R⟩ := row_of (m := m) (bm := bm) lk hk2
      have hix := R.index
      have c1 := box_cell (q_on _ K2).1 R.first
      have hki : (k : Int) < 2 := by omega
      have HT := hide R.told
      have HP := hide R.pre
      have HC := hide R.chain
      have HN := hide R.nodup
      have HS := hide R.sub
      clear R
      gi_wp2
      gi_loopw [5] (fun p wr => ∃ (A B : List Nk) (fp : Nat → Prop), L = A ++ B ∧ p = firstP B ∧ Kp (fun k => (lsPart m b bm D nd tn sn).own k ∨ k = bo) w wr ∧ J (toldK tn sn k ++ keysN A) wr fp) (fun p _ => restOf L p)
      case atStart => exact ⟨[], L, fp, rfl, rfl, K2, by simpa using h2⟩
      case round =>
        clear K2 h2 c1 hix
        obtain ⟨A, B, fp3, rfl, rfl, K3, h3⟩ := hrel
        cases B with
        | nil =>
          rw [first_nil]
          gi_wp2
          refine ⟨⟨k + 1, fp3, hk2, by go_num, K3, ?_⟩, by simp [intOf]; omega⟩
          have := HT.out
          rw [List.append_nil] at this
          rw [this]
          exact h3
        | cons x B =>
          have c2 : wr.cell? ⟨x.1, 0, none⟩ = some (.string x.2) := box_cell ((q_on _ K3).2.1.1 x.1 (HS.out x (by simp))) (by rw [HC.out A x B rfl]; rfl)
          have hpr : toldK tn sn k ++ (keysN A ++ x.2 :: keysN B) <+: keysN (tn ++ sn) := by simpa [keysN] using HP.out
          have hln := pre_len hpr (N := tn.length + sn.length) (by simp [keysN])
          obtain ⟨fn, tmps, assign, body, hy, hR⟩ := hY _ x.2 wr fp3 h3 hln
          have HM := hide (restOf_less HN.out)
          have hfp3 := hfp _ _ _ h3
          rw [first_cons]
          unfold keyEnc at hy
          gi_wp2
          refine hR.mono ?_
          rintro e W3 ⟨fp4, g4, -, ⟨rfl, h4⟩ | ⟨rfl, h4⟩⟩
          · have K4 := K3.step g4 hfp3
            have c3 : W3.cell? ⟨x.1, 3, none⟩ = some (firstP B) := box_cell ((q_on _ K4).2.1.1 x.1 (HS.out x (by simp))) (by rw [HC.out A x B rfl]; rfl)
            have h5 : J (toldK tn sn k ++ keysN (A ++ [x])) W3 fp4 := by simpa [keysN] using h4
            clear h4
            gi_wp2
            go_roundw
            case rel => exact ⟨A ++ [x], B, fp4, by simp, rfl, K4, h5⟩
            case measure => exact HM.out
          · have hp2 : toldK tn sn k ++ keysN A ++ [x.2] <+: keysN (tn ++ sn) := by
              refine List.IsPrefix.trans ?_ hpr
              exact ⟨keysN B, by simp⟩
            gi_wp2
            refine bodyPost_ret (results_none rfl _ _ _) rfl ?_
            exact ⟨⟨_, rfl⟩, .inr ⟨_, fp4, hp2, h4⟩⟩
    · obtain rfl : k = 2 := by omega
      gi_wp2
      go_end0
      exact ⟨⟨_, rfl⟩, .inl ⟨_, fp, rfl, h2⟩⟩
end Go.Proofs.Ytedfhikmlicbgaa
