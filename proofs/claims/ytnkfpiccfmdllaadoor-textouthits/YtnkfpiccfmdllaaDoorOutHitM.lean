/- One key's answer, cut into its pieces; a request of one key, as it is made. Conditions: none. -/
import Derived.Test.YtnkfpiccfmdllaaDoorOutAw
import Derived.Test.YtnkfpiccfmdllaaDoorRefShow12
namespace Go.Proofs.YtnkfpiccfmdllaaDoor
set_option linter.unusedVariables false
open Go.RowKit Go.Shelf

theorem rshow_any {x : Int} (h0 : 0 ≤ x) (h1 : x < 18446744073709551616) (w : World) : Calls Tryd.prog 10 #[.int .u64 x] w fun e w' => e = .returned (.string (mkS (showL x))) ∧ w.grownBy w' none := by
  have h := refShow_nat x.toNat (by omega) w
  rw [Int.toNat_of_nonneg h0] at h
  exact h.mono fun e w' ⟨he, hb⟩ => ⟨he, gr_of_below hb⟩
/-- A result that is a hit. -/
def hitR (x : Rv) : Rv := { x with s := 0 }
theorem hitR_ok {x : Rv} (h : x.ok) : (hitR x).ok := ⟨h.f0, h.f1, h.c0, h.c1, h.n0, h.n1⟩
theorem Box.put {w W : World} {q : Nat} {x : Rv} {va : Option Addr} {vc : Nat} (h : Box w W q x va vc) : Box w (W.setCell ⟨q, 0, none⟩ (.int .i64 0)) q (hitR x) va vc := by
  have e := setCell_eq_setRow W q 0 _ _ _ (.int .i64 0) h.row
  have hrow : (W.setCell ⟨q, 0, none⟩ (.int .i64 0)).heap[q]? = some (.cells (rsC (hitR x) va vc) 38 (0, 0)) := by
    rw [e]
    exact setRow_heap W q _ _ _ _ h.row
  have hlt : q < (W.setCell ⟨q, 0, none⟩ (.int .i64 0)).heap.size := (Array.getElem?_eq_some_iff.1 hrow).1
  refine ⟨⟨h.gr.os, h.gr.tape, h.gr.output, by rw [World.size_setCell]; exact h.gr.size, fun k hk _ => ?_⟩, hlt, h.ge, ?_, ?_, ?_, ?_, hrow⟩
  · have hge := h.ge
    rw [heap_setCell_other _ _ _ _ (show k ≠ q by omega)]
    exact h.gr.block k hk (by simp)
  all_goals
    unfold World.cell?
    rw [hrow]
    rfl
/-- The request of one key. -/
def keyC (key : ByteArray) : Cv := ⟨0, key, [], 0, 0, 0, 0, 0, false, false⟩
def keyQ (key : ByteArray) (cas : Bool) : Qv := ⟨[keyC key], ⟨0, ⟨#[]⟩, 0, 0, false, cas, ⟨#[]⟩, [], [], false⟩⟩
def kqA (key : ByteArray) : Obj := .cells #[.int .i64 0, .string key, .slice none 0 0, .int .u32 0, .int .i64 0, .int .u64 0, .int .u64 0, .int .u64 0, .bool false, .bool false] 36
def kqB (n : Nat) (cas : Bool) : Obj := .cells #[.slice (some ⟨n, 0, none⟩) 1 1, .int .i64 0, .string ⟨#[]⟩, .int .i64 0, .int .u32 0, .bool false, .bool cas, .string ⟨#[]⟩, .slice none 0 0, .slice none 0 0, .bool false] 28
def kqX (x : Rv) (va : Option Addr) (vc : Nat) : Obj := .cells #[.int .i64 0, .slice va x.val.length vc, .int .u32 x.fl, .int .u64 x.cas, .int .i64 x.ttl, .int .u64 x.num, .bool x.st, .bool x.won, .bool x.lost] 38
def kqW (w : World) (key : ByteArray) (cas : Bool) (x : Rv) (va : Option Addr) (vc : Nat) : World := ((w.alloc (kqA key)).alloc (kqB w.heap.size cas)).alloc (kqX x va vc)
theorem kqW_gr (w : World) (key : ByteArray) (cas : Bool) (x : Rv) (va : Option Addr) (vc : Nat) : w.grownBy (kqW w key cas x va vc) none := gr_trans (World.grownBy_alloc _ _ _) (gr_trans (World.grownBy_alloc _ _ _) (World.grownBy_alloc _ _ _))
theorem kqW_blocks (w : World) (key : ByteArray) (cas : Bool) (x : Rv) (va : Option Addr) (vc : Nat) : (kqW w key cas x va vc).heap[w.heap.size]? = some (kqA key) ∧ (kqW w key cas x va vc).heap[w.heap.size + 1 + 1]? = some (kqX x va vc) ∧ (kqW w key cas x va vc).heap.size = w.heap.size + 3 := by
  obtain ⟨W1, h1⟩ : ∃ W1, W1 = w.alloc (kqA key) := ⟨_, rfl⟩
  obtain ⟨W2, h2⟩ : ∃ W2, W2 = W1.alloc (kqB w.heap.size cas) := ⟨_, rfl⟩
  obtain ⟨W3, h3⟩ : ∃ W3, W3 = W2.alloc (kqX x va vc) := ⟨_, rfl⟩
  have e : kqW w key cas x va vc = W3 := by rw [h3, h2, h1]; rfl
  have s1 : W1.heap.size = w.heap.size + 1 := by rw [h1, World.size_alloc]
  have s2 : W2.heap.size = w.heap.size + 1 + 1 := by rw [h2, World.size_alloc, s1]
  have b1 : W1.heap[w.heap.size]? = some (kqA key) := by rw [h1]; exact World.alloc_heap_new w _
  have b3 : W3.heap[w.heap.size + 1 + 1]? = some (kqX x va vc) := by rw [h3, ← s2]; exact World.alloc_heap_new W2 _
  have g12 : W1.grownBy W2 none := by rw [h2]; exact World.grownBy_alloc _ _ _
  have g23 : W2.grownBy W3 none := by rw [h3]; exact World.grownBy_alloc _ _ _
  have g13 : W1.grownBy W3 none := gr_trans g12 g23
  rw [e]
  exact ⟨(g13.block _ (by omega) (by simp)).trans b1, b3, by rw [h3, World.size_alloc, s2]⟩
theorem kq_start (w : World) (key : ByteArray) (cas : Bool) {x : Rv} {va : Option Addr} {vc : Nat} (hx : x.ok) (hb : Bu w va x.val.length vc x.val) : QAt (kqW w key cas x va vc) (keyQ key cas) (some ⟨w.heap.size, 0, none⟩) 1 none 0 none 0 ∧ Ru (kqW w key cas x va vc) (some ⟨w.heap.size + 1 + 1, 0, none⟩) 1 1 [hitR x] := by
  obtain ⟨b1, b3, hs⟩ := kqW_blocks w key cas x va vc
  have one : ∀ {α : Type} {a b : α} {i : Nat}, [a][i]? = some b → i = 0 ∧ b = a := fun {α a b i} h => by
    cases i with
    | zero => exact ⟨rfl, (Option.some.inj h).symm⟩
    | succ i => simp at h
  have hm : (1 : Nat) ≤ maxLen := by decide
  refine ⟨⟨⟨rfl, Nat.le_refl _, hm, .inr ⟨w.heap.size, 0, rfl, by omega, fun i c hi => ?_⟩⟩, Su.none_ _, Su.none_ _⟩, ⟨rfl, Nat.le_refl _, hm, fun y hy => ?_, .inr ⟨w.heap.size + 1 + 1, 0, rfl, by omega, fun i c hi => ?_⟩⟩⟩
  · obtain ⟨rfl, rfl⟩ := one hi
    exact ⟨none, 0, range_new b1, rfl, .inl ⟨rfl, rfl, fun _ => rfl⟩, Nat.le_refl _, Nat.zero_le _⟩
  · obtain rfl : y = hitR x := by simpa using hy
    exact hitR_ok hx
  · obtain ⟨rfl, rfl⟩ := one hi
    exact ⟨va, vc, range_new b3, hb.on (below_gr (kqW_gr w key cas x va vc))⟩
theorem kq_few {key : ByteArray} {cas : Bool} {x : Rv} (hk : key.size ≤ 1000) (hv : x.val.length ≤ 1000) : FewR (keyQ key cas) [hitR x] := by
  refine ⟨by show 1 ≤ 40; decide, by show 1 ≤ 40; decide, fun c hc => ?_, fun y hy => ?_⟩
  · obtain rfl : c = keyC key := by simpa [keyQ] using hc
    exact hk
  · obtain rfl : y = hitR x := by simpa using hy
    exact Nat.le_trans hv (by decide)
/-- The head of a value's line. -/
def headT (key : ByteArray) (x : Rv) (cas : Bool) : List UInt8 := [86, 65, 76, 85, 69, 32] ++ key.data.toList ++ [32] ++ showL x.fl ++ [32] ++ showL x.val.length ++ (if cas then [32] ++ showL x.cas else [])
theorem kq_enc (key : ByteArray) (cas : Bool) (x : Rv) : encL (keyQ key cas) [hitR x] = headT key x cas ++ (endL ++ (x.val ++ (endL ++ (tailL ++ endL)))) := by
  show hitsL [keyC key] [hitR x] cas ++ (tailL ++ endL) = _
  simp only [hitsL, hitL, hitR, if_true, headL_eq, keyC, headT, List.append_assoc, List.append_nil]
/-- A piece of bytes. -/
theorem Bu.piece {w : World} {g L c : Nat} {l : List UInt8} (h : Bu w (some ⟨g, 0, none⟩) L c l) (i m : Nat) (hi : i + m ≤ L) : Bu w (some ⟨g, i, none⟩) m (c - i) ((l.drop i).take m) := by
  have hc := h.c
  have hm := h.m
  refine ⟨by rw [List.length_take, List.length_drop, h.n]; omega, ?_, by omega, by omega⟩
  by_cases h0 : m = 0
  · exact .inl ⟨h0, by rw [h0]; rfl, fun e => by cases e⟩
  · rcases h.b with ⟨h4, _, _⟩ | ⟨b, off, r⟩
    · omega
    · obtain ⟨rfl, rfl⟩ : g = b ∧ 0 = off := by have := r.at_; cases this; exact ⟨rfl, rfl⟩
      refine .inr ⟨g, i, rfl, by omega, by omega, by rw [ints_len, List.length_take, List.length_drop, h.n]; omega, ints_byt _, fun k hk => ?_, r.old⟩
      have := r.cell (i + k) (by omega)
      rw [Nat.zero_add] at this
      rw [this, getD_take _ hk, getD_cut]
theorem conv_piece {W : World} {a : Option Addr} {m c : Nat} {l : List UInt8} (h : Bu W a m c l) : (convert 32 9 (.slice a m c)).run Tryd.prog W = .ok (.string (mkS l)) W := by
  have := conv_bs h.b
  rw [strOf_ints] at this
  exact this
/-- The answer's pieces. -/
theorem kq_pieces (H V : List UInt8) {X : List UInt8} (hX : X = H ++ (endL ++ (V ++ (endL ++ (tailL ++ endL))))) : X.length = H.length + 2 + V.length + 7 ∧ (X.drop 0).take H.length = H ∧ (X.drop (H.length + 2)).take V.length = V ∧ (X.drop (H.length + 2 + V.length + 2)).take 5 = [69, 78, 68, 13, 10] := by
  subst hX
  refine ⟨by simp only [List.length_append, endL, tailL, List.length_cons, List.length_nil]; omega, by simp, ?_, ?_⟩
  · rw [← List.append_assoc, show H.length + 2 = (H ++ endL).length by rw [List.length_append]; rfl, List.drop_left, List.take_left]
  · have e : H ++ (endL ++ (V ++ (endL ++ (tailL ++ endL)))) = (H ++ endL ++ V ++ endL) ++ (tailL ++ endL) := by simp
    rw [e, show H.length + 2 + V.length + 2 = (H ++ endL ++ V ++ endL).length by simp [endL]; omega, List.drop_left]
    rfl
/-- Where the pieces begin. -/
theorem kq_nums {h n L c : Nat} (hL : L = h + 2 + n + 7) (hh : h ≤ 3000) (hn : n ≤ 1000) (hc : L ≤ c) : ∃ A A2 E : Nat, (A = h + 2 ∧ A2 = h + 2 + n ∧ E = h + 2 + n + 2) ∧ wrap64 ((h : Int) + 2) = (A : Int) ∧ wrap64 ((A : Int) + (n : Int)) = (A2 : Int) ∧ wrap64 ((A2 : Int) + 7) = (L : Int) ∧ wrap64 ((L : Int) - 5) = (E : Int) ∧ (A : Int) ≤ (A2 : Int) ∧ A2 - A = n ∧ L - E = 5 ∧ (E : Int) ≤ (L : Int) ∧ (h : Int) ≤ (c : Int) ∧ (A2 : Int) ≤ (c : Int) ∧ ¬ c = A ∧ ¬ c = E := by
  refine ⟨h + 2, h + 2 + n, h + 2 + n + 2, ⟨rfl, rfl, rfl⟩, ?_, ?_, ?_, ?_, ?_, ?_, ?_, ?_, ?_, ?_, ?_, ?_⟩
  all_goals first | omega | (unfold wrap64; omega)
theorem cat_ext {a b : ByteArray} (h : a.data.toList = b.data.toList) : a = b := by
  cases a; cases b
  simp only [] at h
  rw [Array.toList_inj.1 h]
theorem cat_data (a b : ByteArray) : (a ++ b).data.toList = a.data.toList ++ b.data.toList := by rw [ByteArray.data_append, Array.toList_append]
/-- The head, put together. -/
theorem head_no (key : ByteArray) (x : Rv) : (⟨#[86, 65, 76, 85, 69, 32]⟩ : ByteArray) ++ key ++ (⟨#[32]⟩ : ByteArray) ++ mkS (showL x.fl) ++ (⟨#[32]⟩ : ByteArray) ++ mkS (showL x.val.length) = mkS (headT key x false) := by
  apply cat_ext
  simp only [cat_data, mkS_list, headT, Bool.false_eq_true, if_false, List.append_nil]
theorem head_yes (key : ByteArray) (x : Rv) : mkS (headT key x false) ++ (⟨#[32]⟩ : ByteArray) ++ mkS (showL x.cas) = mkS (headT key x true) := by
  apply cat_ext
  simp only [cat_data, mkS_list, headT, Bool.false_eq_true, if_false, if_true, List.append_nil, List.append_assoc]
theorem headT_len {key : ByteArray} {x : Rv} (hx : x.ok) (hk : key.size ≤ 1000) (hv : x.val.length ≤ 1000) (c : Bool) : (headT key x c).length ≤ 1100 := by
  have h1 := (showL_len hx.f0 (by have := hx.f1; omega)).1
  have h2 := (showL_len (x := (x.val.length : Int)) (by omega) (by omega)).1
  have h3 := (showL_len hx.c0 hx.c1).1
  have e : key.data.toList.length = key.size := by rw [Array.length_toList]; rfl
  unfold headT
  cases c <;> simp only [List.length_append, List.length_cons, List.length_nil, Bool.false_eq_true, if_true, if_false] <;> omega
theorem cat_lims {key : ByteArray} {x : Rv} (hx : x.ok) (hk : key.size ≤ 1000) (hv : x.val.length ≤ 1000) : ¬ 9223372036854775807 < 6 + key.size ∧ ¬ 9223372036854775807 < 6 + key.size + 1 ∧ ¬ 9223372036854775807 < 6 + key.size + 1 + (mkS (showL x.fl)).size ∧ ¬ 9223372036854775807 < 6 + key.size + 1 + (mkS (showL x.fl)).size + 1 ∧ ¬ 9223372036854775807 < 6 + key.size + 1 + (mkS (showL x.fl)).size + 1 + (mkS (showL x.val.length)).size := by
  have h1 := (showL_len hx.f0 (by have := hx.f1; omega)).1
  have h2 := (showL_len (x := (x.val.length : Int)) (by omega) (by omega)).1
  rw [mkS_size, mkS_size]
  omega
theorem cat_lims2 {key : ByteArray} {x : Rv} (hx : x.ok) (hk : key.size ≤ 1000) (hv : x.val.length ≤ 1000) : ¬ 9223372036854775807 < (mkS (headT key x false)).size + 1 ∧ ¬ 9223372036854775807 < (mkS (headT key x false)).size + 1 + (mkS (showL x.cas)).size := by
  have h1 := headT_len hx hk hv false
  have h3 := (showL_len hx.c0 hx.c1).1
  rw [mkS_size, mkS_size]
  omega
/-- Where the answer lies, and what its pieces are. -/
theorem kq_all {key : ByteArray} {x : Rv} {b : Bool} {X : List UInt8} {v : Value} {w : World} {base : Nat} (hX : X = headT key x b ++ (endL ++ (x.val ++ (endL ++ (tailL ++ endL))))) (hl : (headT key x b).length ≤ 1100) (hv : x.val.length ≤ 1000) (o : w.ownsRow base 5 1 v X.length (byU X)) :
    ∃ (g c h A A2 E L : Nat), X.length = L ∧ v = .slice (some ⟨g, 0, none⟩) L c ∧ (mkS (headT key x b)).size = h ∧
      (wrap64 ((h : Int) + 2) = (A : Int) ∧ wrap64 ((A : Int) + (x.val.length : Int)) = (A2 : Int) ∧ wrap64 ((A2 : Int) + 7) = (L : Int) ∧ wrap64 ((L : Int) - 5) = (E : Int) ∧ (A : Int) ≤ (A2 : Int) ∧ A2 - A = x.val.length ∧ L - E = 5 ∧ (E : Int) ≤ (L : Int) ∧ (h : Int) ≤ (c : Int) ∧ (A2 : Int) ≤ (c : Int) ∧ ¬ c = A ∧ ¬ c = E) ∧
      (∀ W', w.grownBy W' none → (convert 32 9 (.slice (some ⟨g, 0, none⟩) h c)).run Tryd.prog W' = .ok (.string (mkS (headT key x b))) W') ∧
      (∀ W', w.grownBy W' none → (convert 32 9 (.slice (some ⟨g, A, none⟩) x.val.length (c - A))).run Tryd.prog W' = .ok (.string (mkS x.val)) W') ∧
      (∀ W', w.grownBy W' none → (convert 32 9 (.slice (some ⟨g, E, none⟩) 5 (c - E))).run Tryd.prog W' = .ok (.string (mkS [69, 78, 68, 13, 10])) W') := by
  obtain ⟨pl, pa, pb, pc⟩ := kq_pieces (headT key x b) x.val hX
  obtain ⟨g, c, rfl⟩ := own_form o (show 0 < X.length by omega)
  have bu := ValAt.bu o
  have hc := bu.c
  obtain ⟨A, A2, E, ⟨hA, hA2, hE⟩, hn⟩ := kq_nums pl (show (headT key x b).length ≤ 3000 by omega) hv hc
  refine ⟨g, c, (headT key x b).length, A, A2, E, X.length, rfl, rfl, mkS_size _, hn, fun W' hg => ?_, fun W' hg => ?_, fun W' hg => ?_⟩
  · have := conv_piece ((bu.on (below_gr hg)).piece 0 (headT key x b).length (by omega))
    rw [pa] at this
    exact this
  · have := conv_piece ((bu.on (below_gr hg)).piece ((headT key x b).length + 2) x.val.length (by omega))
    rw [pb, ← hA] at this
    exact this
  · have := conv_piece ((bu.on (below_gr hg)).piece ((headT key x b).length + 2 + x.val.length + 2) 5 (by omega))
    rw [pc, ← hE] at this
    exact this
theorem i64_wrap (z : Int) : IntKind.i64.wrap z = wrap64 z := by rw [IntKind.wrap_i64]; unfold wrap64; rfl
/-- One walk in the order of the text, in a class of worlds. -/
theorem region_cl {P : Program} {C : World → Prop} {id : Nat} {Q : Exit → Act → World → Prop} {a : Act} {w : World} {l : List Oper} (hm : P.follows .mixedOrders = true) (hB : Region.lexB .any l.toArray = true) (hC : C w.drew)
    (h : wpQuiet P l.toArray C (fun a' => ∀ w', C w' → Q .normal a' w') l a) : (Code.region id l.toArray true).wp P Q a w :=
  wp_region_quiet hm hB hC (by simpa using h)
end Go.Proofs.YtnkfpiccfmdllaaDoor
