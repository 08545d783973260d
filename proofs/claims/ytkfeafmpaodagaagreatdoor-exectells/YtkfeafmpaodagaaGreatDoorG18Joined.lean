/- The keys of a list, one by one, as package slru goes over them itself. Conditions: none. What All and Victim of package slru share: its own keys, told one by one. Conditions: none. Victim of package slru, and all its contracts. Conditions: none. -/
import Derived.Test.YtkfeafmpaodagaaGreatDoorG17Joined
import Derived.Test.YtkfeafmpaodagaaGreatDoorG01Joined
import Derived.Sort.BigQuietIn
import Derived.Sort.CutIn
import Derived.Maps.OwnIn
namespace Go.Proofs.YtkfeafmpaodagaaGreatDoor
open Go.RowKit Go.Maps Go.Shelf
attribute [local go_sem] Oper.semAt_some

def toldK (tn sn : List Nk) : Nat → List ByteArray
  | 0 => []
  | 1 => keysN tn
  | _ => keysN (tn ++ sn)
/-- How many nodes are left, from a pointer on. -/
def restOf (l : List Nk) : Value → Nat
  | .pointer (some a) => l.length - (ids l).idxOf a.block
  | _ => 0
theorem restOf_at {A B : List Nk} {x : Nk} (h : (ids (A ++ x :: B)).Nodup) : restOf (A ++ x :: B) (firstP (x :: B)) = B.length + 1 := by
  have hx : ¬ x.1 ∈ ids A := fun hm => by
    obtain ⟨y, hy, e⟩ := List.mem_map.1 hm
    exact ids_ne h (.inl hy) e
  have e1 : (ids (A ++ x :: B)).idxOf x.1 = A.length := by
    unfold ids
    rw [List.map_append, List.idxOf_append, if_neg hx, List.map_cons, List.idxOf_cons_self, List.length_map]
    omega
  show (A ++ x :: B).length - (ids (A ++ x :: B)).idxOf x.1 = _
  rw [e1]
  simp
theorem restOf_less {A B : List Nk} {x : Nk} (h : (ids (A ++ x :: B)).Nodup) : restOf (A ++ x :: B) (firstP B) < restOf (A ++ x :: B) (firstP (x :: B)) := by
  rw [restOf_at h]
  cases B with
  | nil => exact Nat.lt_of_lt_of_le (Nat.lt_succ_self 0) (by simp)
  | cons y B =>
    have e : A ++ x :: y :: B = (A ++ [x]) ++ y :: B := by simp
    rw [e, restOf_at (by rw [← e]; exact h)]
    simp
/-- Blocks that lie as they lay. -/
def Kp (own : Nat → Prop) (w V : World) : Prop := ∀ k, own k → k < V.heap.size ∧ V.heap[k]? = w.heap[k]?
theorem Kp.step {own fp : Nat → Prop} {w V V' : World} (h : Kp own w V) (hg : Gr fp V V') (hf : ∀ k, fp k → k < V.heap.size ∧ ¬ own k) : Kp own w V' := fun k hk => ⟨Nat.lt_of_lt_of_le (h k hk).1 hg.size, (hg.block k (h k hk).1 fun hfk => (hf k hfk).2 hk).trans (h k hk).2⟩
theorem gr_drewN' (F : Nat → Prop) (w : World) (j : Nat) : Gr F w (w.drewN j) := ⟨rfl, rfl, rfl, Nat.le_refl _, fun _ _ _ => rfl⟩
/-- What is asked of the row of number k. -/
structure RowOf (b : Nat) (nd : Nat → Array Value) (tn sn : List Nk) (m : Int) (bm k off : Nat) (l : List Nk) : Prop where
  index : ∀ w : World, (Instr.index 273 (.agg #[.pointer (some ⟨b, 2, none⟩), .pointer (some ⟨b, 5, none⟩)]) (.int .i64 k)).run Tryz.prog w = .ok (.pointer (some ⟨b, off, none⟩)) w
  first : (headR m bm tn sn)[off]? = some (firstP l)
  chain : Chain b off nd l
  nodup : (ids l).Nodup
  sub : ∀ y ∈ l, y.1 ∈ ids (tn ++ sn)
  told : toldK tn sn (k + 1) = toldK tn sn k ++ keysN l
  pre : toldK tn sn k ++ keysN l <+: keysN (tn ++ sn)
theorem row_of {b : Nat} {nd : Nat → Array Value} {tn sn : List Nk} {m : Int} {bm k : Nat} (lk : Lk b nd (ids (tn ++ sn)) tn sn) (hk : k < 2) : ∃ off l, RowOf b nd tn sn m bm k off l := by
  have h : k = 0 ∨ k = 1 := by omega
  rcases h with rfl | rfl
  · refine ⟨2, tn, ⟨fun w => by kernel_rfl, rfl, lk.t, nodup_left lk.nodup, fun y hy => lk.sub y (List.mem_append_left _ hy), by simp [toldK], ?_⟩⟩
    show [] ++ keysN tn <+: _
    unfold keysN
    rw [List.nil_append, List.map_append]
    exact List.prefix_append _ _
  · refine ⟨5, sn, ⟨fun w => by kernel_rfl, rfl, lk.s, nodup_right lk.nodup, fun y hy => lk.sub y (List.mem_append_right _ hy), by simp [toldK, keysN], ?_⟩⟩
    show keysN tn ++ keysN sn <+: _
    unfold keysN
    rw [List.map_append]
    exact List.prefix_refl _
theorem pre_len {p q l : List ByteArray} {x : ByteArray} {r : List ByteArray} {N : Nat} (h : p ++ (q ++ x :: r) <+: l) (hl : l.length = N) : (p ++ q).length < N := by
  have := h.length_le
  simp at this ⊢
  omega
set_option maxRecDepth 100000 in
set_option maxHeartbeats 4000000 in
theorem keys_seq (n : Nat) (hn : 1 ≤ n) {w : World} {b bo bm : Nat} {m : Int} {D : DataW Value} {nd : Nat → Array Value} {tn sn : List Nk} (hq : (lsPart m b bm D nd tn sn).q w) (hlt : ∀ k, (lsPart m b bm D nd tn sn).own k → k < w.heap.size) (hbo : w.heap[bo]? = some (.cells #[.pointer (some ⟨b, 0, none⟩)] 57)) (lk : Lk b nd (ids (tn ++ sn)) tn sn) :
    SeqSep Fence.wide n Tryz.prog 227 #[.pointer (some ⟨bo, 0, none⟩)] keyEnc (fun k => (lsPart m b bm D nd tn sn).own k ∨ k = bo) (fun xs => xs = keysN (tn ++ sn)) (fun pre => pre <+: keysN (tn ++ sn)) (tn.length + sn.length) w := by
  intro l J Jx fp0 W hW hJ hJx hfp hY h0
  have hbl : bo < w.heap.size := (Array.getElem?_eq_some_iff.1 hbo).1
  have K0 : Kp (fun k => (lsPart m b bm D nd tn sn).own k ∨ k = bo) w W := fun k hk => by
    have hk' : k < w.heap.size := hk.elim (hlt k) fun e => e ▸ hbl
    exact ⟨Nat.lt_of_lt_of_le hk' hW.size, hW.block k hk'⟩
  have q_on : ∀ V, Kp (fun k => (lsPart m b bm D nd tn sn).own k ∨ k = bo) w V → (lsPart m b bm D nd tn sn).q V := fun V hV => (lsPart m b bm D nd tn sn).on w V hq fun k hk => (hV k (.inl hk)).2
  have c0 : W.cell? ⟨bo, 0, none⟩ = some (.pointer (some ⟨b, 0, none⟩)) := box_cell ((K0 bo (.inr rfl)).2.trans hbo) rfl
  refine callsIn_of_wp Tryz.func227 rfl trivial ?_ rfl
  simp only [Tryz.ntmps227, List.size_toArray, List.length_cons, List.length_nil, Nat.reduceAdd, Nat.reduceSub, Array.replicate_succ, Array.replicate_zero, List.push_toArray, List.append_toArray, List.nil_append, List.cons_append]
  gi_upto_region 0 with fail
  gi_big_quiet_th (fail)
  have K1 : Kp (fun k => (lsPart m b bm D nd tn sn).own k ∨ k = bo) w (W.drewN nq) := K0
  have h1 : J [] (W.drewN nq) fp0 := hJ _ _ _ _ h0 (gr_drewN' _ _ _) fun _ _ => rfl
  clear c0
  gi_wp2
  gi_loopw [13] (fun i wr => ∃ (k : Nat) (fp : Nat → Prop), k ≤ 2 ∧ i = .int .i64 k ∧ Kp (fun k => (lsPart m b bm D nd tn sn).own k ∨ k = bo) w wr ∧ J (toldK tn sn k) wr fp) (fun i _ => 2 - (intOf i).toNat)
  case atStart => exact ⟨0, fp0, Nat.zero_le _, rfl, K1, h1⟩
  case round =>
    clear h1 K1 h0 K0
    obtain ⟨k, fp, hk, rfl, K2, h2⟩ := hrel
    by_cases hk2 : k < 2
    · obtain ⟨off, L, R⟩ := row_of (m := m) (bm := bm) lk hk2
      have hix := R.index
      have c1 := box_cell (q_on _ K2).1 R.first
      have hki : (k : Int) < 2 := by omega
      have HT := hide R.told
      have HP := hide R.pre
      have HC := hide R.chain
      have HN := hide R.nodup
      have HS := hide R.sub
      clear R
      gi_wp2
      gi_loopw [5] (fun p wr => ∃ (A B : List Nk) (fp : Nat → Prop), L = A ++ B ∧ p = firstP B ∧ Kp (fun k => (lsPart m b bm D nd tn sn).own k ∨ k = bo) w wr ∧ J (toldK tn sn k ++ keysN A) wr fp) (fun p _ => restOf L p)
      case atStart => exact ⟨[], L, fp, rfl, rfl, K2, by simpa using h2⟩
      case round =>
        clear K2 h2 c1 hix
        obtain ⟨A, B, fp3, rfl, rfl, K3, h3⟩ := hrel
        cases B with
        | nil =>
          rw [first_nil]
          gi_wp2
          refine ⟨⟨k + 1, fp3, hk2, by go_num, K3, ?_⟩, by simp [intOf]; omega⟩
          have := HT.out
          rw [List.append_nil] at this
          rw [this]
          exact h3
        | cons x B =>
          have c2 : wr.cell? ⟨x.1, 0, none⟩ = some (.string x.2) := box_cell ((q_on _ K3).2.1.1 x.1 (HS.out x (by simp))) (by rw [HC.out A x B rfl]; rfl)
          have hpr : toldK tn sn k ++ (keysN A ++ x.2 :: keysN B) <+: keysN (tn ++ sn) := by simpa [keysN] using HP.out
          have hln := pre_len hpr (N := tn.length + sn.length) (by simp [keysN])
          obtain ⟨fn, tmps, assign, body, hy, hR⟩ := hY _ x.2 wr fp3 h3 hln
          have HM := hide (restOf_less HN.out)
          have hfp3 := hfp _ _ _ h3
          rw [first_cons]
          unfold keyEnc at hy
          gi_wp2
          refine hR.mono ?_
          rintro e W3 ⟨fp4, g4, -, ⟨rfl, h4⟩ | ⟨rfl, h4⟩⟩
          · have K4 := K3.step g4 hfp3
            have c3 : W3.cell? ⟨x.1, 3, none⟩ = some (firstP B) := box_cell ((q_on _ K4).2.1.1 x.1 (HS.out x (by simp))) (by rw [HC.out A x B rfl]; rfl)
            have h5 : J (toldK tn sn k ++ keysN (A ++ [x])) W3 fp4 := by simpa [keysN] using h4
            clear h4
            gi_wp2
            go_roundw
            case rel => exact ⟨A ++ [x], B, fp4, by simp, rfl, K4, h5⟩
            case measure => exact HM.out
          · have hp2 : toldK tn sn k ++ keysN A ++ [x.2] <+: keysN (tn ++ sn) := by
              refine List.IsPrefix.trans ?_ hpr
              exact ⟨keysN B, by simp⟩
            gi_wp2
            refine bodyPost_ret (results_none rfl _ _ _) rfl ?_
            exact ⟨⟨_, rfl⟩, .inr ⟨_, fp4, hp2, h4⟩⟩
    · obtain rfl : k = 2 := by omega
      gi_wp2
      go_end0
      exact ⟨⟨_, rfl⟩, .inl ⟨_, fp, rfl, h2⟩⟩
end Go.Proofs.YtkfeafmpaodagaaGreatDoor

namespace Go.Proofs.YtkfeafmpaodagaaGreatDoor
open Go.RowKit Go.Maps Go.Shelf

theorem SeqSep.wider {α : Type} {F : Fence} {n : Nat} {P : Program} {g : Nat} {lb : Array Value} {encs : α → Array Value} {own own' : Nat → Prop} {S Sp : List α → Prop} {N : Nat} {w : World} (h : SeqSep F n P g lb encs own S Sp N w) (ho : ∀ k, own k → own' k) : SeqSep F n P g lb encs own' S Sp N w :=
  fun l J Jx fp0 W hW hJ hJx hfp hY h0 => h l J Jx fp0 W hW hJ hJx (fun pre V fp hj k hk => ⟨(hfp pre V fp hj k hk).1, fun hk' => (hfp pre V fp hj k hk).2 (ho k hk')⟩) hY h0
theorem Law.putD {w0 W : World} {A : Part} (H : Law w0 W A) {D : Nat} (o : Obj) (hD : ¬ A.own D) (h0 : w0.heap.size ≤ D) : Law w0 (W.putObj D o) A := by
  have hg := gr_put (W := W) (F := fun k => k = D) o rfl
  exact ⟨Gr.below H.below hg (fun k hk => by omega), A.on _ _ H.q fun k hk => World.putObj_heap_other fun e => hD (by rw [← e]; exact hk), fun k hk => ⟨(H.lt k hk).1, Nat.lt_of_lt_of_le (H.lt k hk).2 hg.size⟩⟩
theorem Ls0.lt {w : World} {b : Nat} {own : Nat → Prop} {st : Sr} (h : Ls0 w b own st) : ∀ k, own k → k < w.heap.size := by
  obtain ⟨_, _, _, _, _, _, _, h3, _⟩ := h
  exact h3
theorem Ls0.keep {w w' : World} {b : Nat} {own : Nat → Prop} {st : Sr} (h : Ls0 w b own st) (hs : SameOn own w w') : Ls0 w' b own st := by
  obtain ⟨bm, D, nd, tn, sn, rfl, h2, h3, h4⟩ := h
  refine ⟨bm, D, nd, tn, sn, rfl, (lsPart (max st.most 0) b bm D nd tn sn).on w w' h2 hs, fun k hk => ?_, h4⟩
  have h5 := h3 k hk
  have h6 := hs k hk
  rw [Array.getElem?_eq_getElem h5] at h6
  exact (Array.getElem?_eq_some_iff.1 h6).1
theorem Ls0.grown {w w' : World} {b : Nat} {own : Nat → Prop} {st : Sr} (h : Ls0 w b own st) (hg : w.grownBy w' none) : Ls0 w' b own st := h.keep fun k hk => hg.block k (h.lt k hk) (by simp)
/-- Behind a call that lays a box. -/
structure Laid1 (V w1 : World) (o : Obj) : Prop where
  grown : V.grownBy w1 none
  size : w1.heap.size = V.heap.size + 1
  box : w1.heap[V.heap.size]? = some o
theorem laid1 (V : World) (o : Obj) : Laid1 V (V.alloc o) o := ⟨World.grownBy_alloc _ _ _, World.size_alloc _ _, World.alloc_heap_new V o⟩
set_option maxHeartbeats 1000000 in
theorem keysMk (b : Nat) (w : World) : Calls Tryz.prog 211 #[.pointer (some ⟨b, 0, none⟩)] w fun e w' => e = .returned (.func (.func 227) #[] #[.pointer (some ⟨w.heap.size, 0, none⟩)]) ∧ Laid1 w w' (.cells #[.pointer (some ⟨b, 0, none⟩)] 57) := by
  have hL := laid1 w (.cells #[.pointer (some ⟨b, 0, none⟩)] 57)
  go_enter Tryz.func211, Tryz.ntmps211
  go_wp2
  go_ret
  exact ⟨rfl, hL⟩
theorem keys_at {w V : World} {b bo : Nat} {own : Nat → Prop} {st : Sr} (h : Ls0 w b own st) (hV : w.grownBy V none) (hbo : V.heap[bo]? = some (.cells #[.pointer (some ⟨b, 0, none⟩)] 57)) (n : Nat) (hn : 1 ≤ n) :
    SeqSep Fence.wide n Tryz.prog 227 #[.pointer (some ⟨bo, 0, none⟩)] keyEnc (fun k => own k ∨ k = bo) (fun ys => ys = allR st) (fun pre => pre <+: allR st) (allR st).length V := by
  obtain ⟨bm, D, nd, tn, sn, rfl, h2, h3, h4⟩ := h.grown hV
  rw [h4.all]
  have := keys_seq n hn h2 h3 hbo h4.lk
  have e : (keysN (tn ++ sn)).length = tn.length + sn.length := by simp [keysN]
  rw [e]
  exact this
end Go.Proofs.YtkfeafmpaodagaaGreatDoor

namespace Go.Proofs.YtkfeafmpaodagaaGreatDoor
open Go.RowKit Go.Maps Go.Shelf
attribute [local go_sem] Oper.semAt_some

theorem results_two {fn : Func} {p q : Tmp} {t u : TypeId} (h : fn.results = #[.cell p t, .cell q u]) (tmps : Array Value) (P : Program) (w : World) :
    (results fn tmps).run P w = ((asAddr (tmps.getD p undef)).run P w).andThen fun a w₁ => ((loadVar t a).run P w₁).andThen fun v w₂ => ((asAddr (tmps.getD q undef)).run P w₂).andThen fun a' w₃ => ((loadVar u a').run P w₃).andThen fun v' w₄ => .ok (.tuple #[v, v']) w₄ := by
  simp only [results, h]
  simp [Sem.run_bind, Result.andThen]
theorem foot_vic {own : Nat → Prop} {w0 : World} {bo : Nat} {o : Obj} {G : List ByteArray → Value → Part} {C : List ByteArray → Value → Prop} (ho : ∀ k, own k → k < w0.heap.size) : ∀ pre V fp, (∃ v, fp = (G pre v).own ∧ Law w0 V ((boxP bo o).and (G pre v)) ∧ C pre v) → ∀ k, fp k → k < V.heap.size ∧ ¬ (own k ∨ k = bo) := by
  rintro pre V fp ⟨v, rfl, H, -⟩ k hk
  refine ⟨(H.lt k (.inr hk)).2, ?_⟩
  rintro (h | h)
  · have h1 := (H.lt k (.inr hk)).1
    have h2 := ho k h
    omega
  · exact H.q.2.2 k h hk
/-- The three boxes of Victim. -/
abbrev vicP (n : Nat) (s : ByteArray) (v q : Value) : Part := (boxP (n + 1 + 1) (.cells #[q] 4)).and ((boxP (n + 1) (.cells #[v] 9)).and ((boxP n (.cells #[.string s] 9)).and Part.emp))
theorem vic_cells {w W : World} {A : Part} {n : Nat} {s : ByteArray} {v q : Value} (H : Law w W (A.and (vicP n s v q))) : Boxed W (n + 1) 9 v ∧ Boxed W (n + 1 + 1) 4 q ∧ Boxed W n 9 (.string s) := ⟨H.q.2.1.2.1.1, H.q.2.1.1, H.q.2.1.2.1.2.1.1⟩
theorem vic_store {w W : World} {A : Part} {n : Nat} {s : ByteArray} {v q : Value} (H : Law w W (A.and (vicP n s v q))) (v' q' : Value) :
    Boxed (W.setCell ⟨n + 1, 0, none⟩ v') (n + 1 + 1) 4 q ∧ Law w ((W.setCell ⟨n + 1, 0, none⟩ v').setCell ⟨n + 1 + 1, 0, none⟩ q') (A.and (vicP n s v' q')) ∧ Gr (vicP n s v q).own W ((W.setCell ⟨n + 1, 0, none⟩ v').setCell ⟨n + 1 + 1, 0, none⟩ q') := by
  have H1 := ((H.rin.rot.set v').rot.rin).rot
  refine ⟨H1.q.1, (H1.set q').rot, ?_⟩
  have g1 := grownBy_setCell' W (n + 1) v'
  have g2 := grownBy_setCell' (W.setCell ⟨n + 1, 0, none⟩ v') (n + 1 + 1) q'
  refine ⟨g2.1.trans g1.1, g2.2.trans g1.2, g2.3.trans g1.3, Nat.le_trans g1.4 g2.4, fun k hk hn => (g2.5 k (Nat.lt_of_lt_of_le hk g1.4) fun e => ?_).trans (g1.5 k hk fun e => ?_)⟩
  · cases e
    exact hn (.inl rfl)
  · cases e
    exact hn (.inr (.inl rfl))
/-- Its answer, out of the two boxes. -/
theorem vic_results {w W : World} {n : Nat} {s : ByteArray} {x : ByteArray} {q : Bool} (H : Law w W (vicP n s (.string x) (.bool q))) {tmps : Array Value} (h4 : tmps.getD 4 undef = .pointer (some ⟨n + 1, 0, none⟩)) (h5 : tmps.getD 5 undef = .pointer (some ⟨n + 1 + 1, 0, none⟩)) : (results Tryz.f191 tmps).run Tryz.prog W = .ok (.tuple #[.string x, .bool q]) W := by
  have c1 := (show Boxed W (n + 1) 9 (.string x) from H.q.2.1.1).cell
  have c2 := (show Boxed W (n + 1 + 1) 4 (.bool q) from H.q.1).cell
  rw [results_two rfl, h4, h5]
  go_simp
abbrev vicB (w : World) (b : Nat) : Part := boxP (w.heap.size + 1 + 1 + 1) (.cells #[.pointer (some ⟨b, 0, none⟩)] 57)
def VicI (w : World) (b : Nat) (s : ByteArray) (pre : List ByteArray) (W : World) (fp : Nat → Prop) : Prop := ∃ _v : Value, fp = (vicP w.heap.size s (.string ⟨#[]⟩) (.bool false)).own ∧ Law w W ((vicB w b).and (vicP w.heap.size s (.string ⟨#[]⟩) (.bool false))) ∧ ∀ y ∈ pre, y = s
def VicX (w : World) (b : Nat) (s : ByteArray) (c : Code) (pre : List ByteArray) (W : World) (fp : Nat → Prop) : Prop := ∃ v : Value, fp = (vicP w.heap.size s v (.bool true)).own ∧ Law w W ((vicB w b).and (vicP w.heap.size s v (.bool true))) ∧ (c = .ret ∧ ∃ p x, pre = p ++ [x] ∧ v = .string x ∧ x ≠ s ∧ ∀ y ∈ p, y = s)
theorem str_ne' {x y : ByteArray} (h : x ≠ y) : (x.toList == y.toList) = false := beq_eq_false_iff_ne.2 fun e => h (by
  rw [ByteArray.toList_eq, ByteArray.toList_eq] at e
  exact ByteArray.ext (Array.toList_inj.1 e))
theorem vic_found {st : Sr} {s x : ByteArray} {p : List ByteArray} (h : p ++ [x] <+: allR st) (hp : ∀ y ∈ p, y = s) (hx : x ≠ s) : vicR st s = some x := by
  obtain ⟨r, hr⟩ := h
  unfold vicR
  rw [← hr, List.append_assoc, List.find?_append]
  have : p.find? (fun y => decide (y ≠ s)) = none := List.find?_eq_none.2 fun y hy => by simp [hp y hy]
  rw [this]
  simp [hx]
theorem vic_nobody {st : Sr} {s : ByteArray} (h : ∀ y ∈ allR st, y = s) : vicR st s = none := List.find?_eq_none.2 fun y hy => by simp [h y hy]
def VicEnd (w : World) (b : Nat) (own : Nat → Prop) (st : Sr) (s : ByteArray) (e : Ending) (w' : World) : Prop := e = .returned (.tuple #[.string ((vicR st s).getD ⟨#[]⟩), .bool (vicR st s).isSome]) ∧ Ls0 w' b own st ∧ w.grownBy w' none
set_option maxRecDepth 100000 in
set_option maxHeartbeats 1000000 in
theorem vicR_any {w : World} {b : Nat} {own : Nat → Prop} {st : Sr} (h : Ls0 w b own st) (s : ByteArray) :
    Calls Tryz.prog 191 #[.pointer (some ⟨b, 0, none⟩), .string s] w (VicEnd w b own st s) := by
  refine (callsIn_wide (n := 9)).1 ?_
  have H0 := (((Law.start w).box (.cells #[.string s] 9)).box (.cells #[.string ⟨#[]⟩] 9)).box (.cells #[.bool false] 4)
  simp only [World.size_alloc] at H0
  refine callsIn_of_wp_marks Tryz.func191 rfl trivial ?_ rfl
  simp only [Tryz.ntmps191, List.size_toArray, List.length_cons, List.length_nil, Nat.reduceAdd, Nat.reduceSub, Array.replicate_succ, Array.replicate_zero, List.push_toArray, List.append_toArray, List.nil_append, List.cons_append]
  gi_wp2_with (refine ⟨trivial, ?_⟩; gi_at_call 211; refine (callsIn_wide.2 (keysMk b _)).mono ?_; rintro e w1 ⟨rfl, hk1⟩)
  have hsz : w1.heap.size = w.heap.size + 1 + 1 + 1 + 1 := by rw [hk1.size]; simp only [World.size_alloc]
  have hbx : w1.heap[w.heap.size + 1 + 1 + 1]? = some (.cells #[.pointer (some ⟨b, 0, none⟩)] 57) := by
    have := hk1.box
    simp only [World.size_alloc] at this
    exact this
  have hgw : w.grownBy w1 none := gr_of_below (H0.step hk1.grown).below
  have H1 : Law w w1 ((boxP (w.heap.size + 1 + 1 + 1) (.cells #[.pointer (some ⟨b, 0, none⟩)] 57)).and (vicP w.heap.size s (.string ⟨#[]⟩) (.bool false))) := H0.new hk1.grown hbx (by rintro k rfl; simp only [World.size_alloc]; omega)
  have ho := h.lt
  have hlt2 : ∀ k, (own k ∨ k = w.heap.size + 1 + 1 + 1) → k < w1.heap.size := fun k hk => hk.elim (fun hh => by have := ho k hh; omega) fun hh => by omega
  have hend : ∀ W, Law w W (vicP w.heap.size s (.string ⟨#[]⟩) (.bool false)) → True := fun _ _ => trivial
  have hL := hide h
  have hseq := keys_at h hgw hbx
  clear H0 hend hk1 h
  refine range_sep rfl (by decide) (gf := 227) (lb := #[.pointer (some ⟨w.heap.size + 1 + 1 + 1, 0, none⟩)]) rfl trivial (fun args u => by kernel_rfl) (hseq (9 - 1) (by decide)) (Below.refl _ _) hlt2 (fun _ => rfl)
    (VicI w b s) (VicX w b s)
    _ (lasts_law (w0 := w) (it := boxP (w.heap.size + 1 + 1 + 1) (.cells #[.pointer (some ⟨b, 0, none⟩)] 57)) (G := fun (_ : List ByteArray) (_ : Value) => vicP w.heap.size s (.string ⟨#[]⟩) (.bool false)) (C := fun pre _ => ∀ y ∈ pre, y = s) (by omega) (fun k hk => hlt2 k (.inr hk))) (fun c => lasts_law (w0 := w) (it := boxP (w.heap.size + 1 + 1 + 1) (.cells #[.pointer (some ⟨b, 0, none⟩)] 57)) (G := fun (_ : List ByteArray) (v : Value) => vicP w.heap.size s v (.bool true)) (C := fun pre v => c = .ret ∧ ∃ p x, pre = p ++ [x] ∧ v = .string x ∧ x ≠ s ∧ ∀ y ∈ p, y = s) (by omega) (fun k hk => hlt2 k (.inr hk))) (foot_vic (G := fun (_ : List ByteArray) (_ : Value) => vicP w.heap.size s (.string ⟨#[]⟩) (.bool false)) (C := fun pre _ => ∀ y ∈ pre, y = s) ho) ⟨undef, rfl, H1, fun y hy => by cases hy⟩ ?act ?assign ?body ?done ?stop
  case assign =>
    intro l x W K hK
    unfold keyEnc
    gi_wp2
    exact hK
  case body =>
    rintro l pre x W fp ⟨_, rfl, HJ, hall⟩ hltN
    clear H1
    obtain ⟨b1, b2, b3⟩ := vic_cells HJ
    have c1 := b1.cell
    have c2 := b2.cell
    have c3 := b3.cell
    have f1 := b1.frozen
    by_cases hx : x = s
    · subst hx
      have HG : Hid (∃ fp', Gr (vicP w.heap.size x (.string ⟨#[]⟩) (.bool false)).own W W ∧ Grew W (vicP w.heap.size x (.string ⟨#[]⟩) (.bool false)).own fp' ∧ VicI w b x (pre ++ [x]) W fp') := by
        refine ⟨_, Gr.refl _ _, fun _ hk => .inl hk, undef, rfl, HJ, fun y hy => ?_⟩
        rcases List.mem_append.1 hy with hy | hy
        · exact hall y hy
        · exact List.mem_singleton.1 hy
      clear hall HJ
      gi_wp2
      exact HG.out
    · obtain ⟨b4, HJ2, hG⟩ := vic_store HJ (.string x) (.bool true)
      have c4 := b4.cell
      have f4 := b4.frozen
      have hne := str_ne' hx
      have HG : Hid (∃ fp', Gr (vicP w.heap.size s (.string ⟨#[]⟩) (.bool false)).own W ((W.setCell ⟨w.heap.size + 1, 0, none⟩ (.string x)).setCell ⟨w.heap.size + 1 + 1, 0, none⟩ (.bool true)) ∧ Grew W (vicP w.heap.size s (.string ⟨#[]⟩) (.bool false)).own fp' ∧ VicX w b s .ret (pre ++ [x]) ((W.setCell ⟨w.heap.size + 1, 0, none⟩ (.string x)).setCell ⟨w.heap.size + 1 + 1, 0, none⟩ (.bool true)) fp') :=
        ⟨_, hG, fun _ hk => .inl hk, .string x, rfl, HJ2, rfl, pre, x, rfl, rfl, hx, hall⟩
      clear hall HJ hx HJ2 hG
      gi_wp2
      exact HG.out
  case stop =>
    rintro D c pre W fp hD hpre ⟨v, rfl, HJ, rfl, p, x, rfl, rfl, hx, hall⟩ hK hnD
    have hf := hide (vic_found hpre hall hx)
    have HE := HJ.right.putD (.deferred none) hnD (by omega)
    have HE2 := hide HE
    clear hall hpre hx H1
    gi_wp2
    refine ⟨by simp, .inl ⟨_, _, rfl, run_takeDeferred hK, ?_⟩⟩
    refine ⟨.tuple #[.string x, .bool true], ?_, ?_⟩
    · exact vic_results HE2.out rfl rfl
    · refine ⟨by rw [hf.out]; rfl, hL.out.grown (gr_of_below HE2.out.below), gr_of_below HE2.out.below⟩
  case done =>
    rintro D ys W fp hD rfl ⟨_, rfl, HJ, hall⟩ hK hnD
    have hf := hide (vic_nobody hall)
    obtain ⟨b1, b2, b3⟩ := vic_cells HJ
    have c1 := b1.cell
    have f1 := b1.frozen
    obtain ⟨b4, HJ2, hG⟩ := vic_store HJ (.string ⟨#[]⟩) (.bool false)
    have c4 := b4.cell
    have f4 := b4.frozen
    have hK2 : ((W.setCell ⟨w.heap.size + 1, 0, none⟩ (.string ⟨#[]⟩)).setCell ⟨w.heap.size + 1 + 1, 0, none⟩ (.bool false)).heap[D]? = some (.deferred (some [])) := (hG.block D (Array.getElem?_eq_some_iff.1 hK).1 hnD).trans hK
    have HE2 := hide (HJ2.right.putD (.deferred none) hnD (by omega))
    clear hall HJ H1 HJ2 hG
    gi_wp2
    refine ⟨by simp, .inl ⟨_, _, rfl, run_takeDeferred hK2, ?_⟩⟩
    refine ⟨.tuple #[.string ⟨#[]⟩, .bool false], ?_, ?_⟩
    · exact vic_results HE2.out rfl rfl
    · refine ⟨by rw [hf.out]; rfl, hL.out.grown (gr_of_below HE2.out.below), gr_of_below HE2.out.below⟩
theorem Ls0.good {w : World} {b : Nat} {own : Nat → Prop} {st : Sr} (h : Ls0 w b own st) : GoodR st := by
  obtain ⟨_, _, _, _, _, _, _, _, h4⟩ := h
  exact h4.good
theorem slru_lib : SlruLib Ls0 where
  lt := fun h => h.lt
  good := fun h => h.good
  keep := fun h hs => h.keep hs
  new := newR_any
  add := fun h hn s hs => addR_any h hn s hs
  hit := fun h hn s hs => hitR_any h hn s hs
  remove := fun h hn s hs => remR_any h hn s hs
  victim := fun h _ s _ => vicR_any h s
end Go.Proofs.YtkfeafmpaodagaaGreatDoor
