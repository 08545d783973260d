/- Items, entries and their bytes in memory; what a copy of an item is. Conditions: values of at most 100000 bytes. A copy of an item, with bytes of its own. Conditions: values of at most 100000 bytes. -/
import Derived.Test.YtkfeafmpaodagaaGreatDoorG00Joined
import Derived.Test.YtkfeafmpaodagaaGreatDoorG04Joined
import Derived.Test.YtkfeafmpaodagaaGreatDoorG02Joined
import Derived.Test.YtkfeafmpaodagaaGreatDoorShardM
import Derived.Great.Ranges
import Derived.Laws.Tables
import Derived.Deep.MidRow
import Derived.Laws.ResultCell
import Derived.Laws.Cover3
import Derived.Deep.CutBlock
import Derived.Deep.CutRange
import Derived.Deep.QuietTactic
import Derived.BigQuiet
import Derived.Deep.RegionHeldLaw
import Derived.Deep.RegionHeld3
import Derived.Shelf.SlSortCmp.QuietGrown
namespace Go.Proofs.YtkfeafmpaodagaaGreatDoor
open Go.RowKit

/-- Bytes as cells. -/
def byU (l : List UInt8) : List Value := byV (ints l)
theorem byU_len (l : List UInt8) : (byU l).length = l.length := by unfold byU byV; rw [List.length_map, ints_len]
theorem byU_get {l : List UInt8} {i : Nat} (h : i < l.length) : (byU l)[i]? = some (.int .u8 ((ints l).getD i 0)) := by
  unfold byU byV
  have : i < (ints l).length := by rw [ints_len]; exact h
  rw [List.getElem?_map, List.getElem?_eq_getElem this]
  simp [List.getD, List.getElem?_eq_getElem this]
/-- A value's bytes, in a row of its own. -/
def ValAt (n0 : Nat) (w : World) (a : Option Addr) (c : Nat) (l : List UInt8) : Prop := w.ownsRow n0 5 1 (.slice a l.length c) l.length (byU l)
/-- The same as a part. -/
def valP (n0 : Nat) (a : Option Addr) (c : Nat) (l : List UInt8) : Part := rowP n0 5 1 (.slice a l.length c) l.length (byU l)
theorem ValAt.new {F : Nat → Prop} {w0 w w' : World} {a : Option Addr} {c : Nat} {l : List UInt8} {R : Part} (h : ValAt w.heap.size w' a c l) (H : LawF F w0 w R) (hg : w.grownBy w' none) : LawF F w0 w' ((valP w.heap.size a c l).and R) :=
  H.new (A := valP w.heap.size a c l) hg h fun _ hk => ⟨(own_at h hk).1, (own_at h hk).2.1⟩
theorem LawF.grownN {w W : World} {A : Part} (H : LawF (fun _ => False) w W A) : w.grownBy W none := H.gr.to fun _ h => h.elim
theorem ValAt.bs {n0 : Nat} {w : World} {a : Option Addr} {c : Nat} {l : List UInt8} (h : ValAt n0 w a c l) : Bs w a l.length c (ints l) := by
  by_cases h0 : l.length = 0
  · refine .inl ⟨h0, ?_, fun ha => ?_⟩
    · rw [List.eq_nil_of_length_eq_zero h0]
      rfl
    · subst ha
      rcases h.2 with ⟨h1, _⟩ | ⟨g, cap, cur, h1, _⟩
      · exact (Value.slice.inj h1).2.2
      · cases h1
  · obtain ⟨g, cap, e⟩ := own_form h (by omega)
    cases e
    have hc := own_cap h
    refine .inr ⟨g, 0, rfl, by omega, hc.1, ints_len l, ints_byt l, fun i hi => ?_, (own_at h rfl).2.1⟩
    have h' : w.ownsRow n0 5 1 (.slice (some ⟨g, 0, none⟩) l.length c) l.length (byU l) := h
    rw [Nat.zero_add, h'.cellAt i (by omega), byU_get hi]
theorem ValAt.base {n0 n1 : Nat} {w : World} {a : Option Addr} {c : Nat} {l : List UInt8} (h : ValAt n0 w a c l) (hn : n1 ≤ n0) : ValAt n1 w a c l := by
  refine ⟨h.1, ?_⟩
  rcases h.2 with h1 | ⟨g, cap, cur, h1, h2, h3⟩
  · exact .inl h1
  · exact .inr ⟨g, cap, cur, h1, Nat.le_trans hn h2, h3⟩
/-- All of them are appended. -/
theorem run_append_bs (w : World) (base : Nat) (ty : TypeId) {v : Value} {n : Nat} {xs : List Value} {a : Option Addr} {len cap : Nat} {l : List UInt8} (hown : w.ownsRow base 5 1 v n xs) (hl : l.length = len) (hr : Bs w a len cap (ints l)) (hn : n + len ≤ 100000000) (hb : base ≤ w.heap.size) :
    ∃ v' w', (Builtin.append_ #[30, 30] ty #[v, .slice a len cap]).run Tryz.prog w = .ok v' w' ∧ w'.ownsRow base 5 1 v' (n + len) (xs ++ byU l) ∧ w.grownBy w' v.ownBlock ∧ (v'.ownBlock = v.ownBlock ∨ v'.ownBlock = some w.heap.size) := by
  obtain ⟨i0, hi, hz0, hz1, hz2⟩ := info_parts info_byte
  cases a with
  | none =>
    obtain ⟨rfl, h0, hc⟩ : len = 0 ∧ ints l = [] ∧ cap = 0 := by
      rcases hr with ⟨h1, h2, h3⟩ | ⟨b, off, r⟩
      · exact ⟨h1, h2, h3 rfl⟩
      · cases r.at_
    subst hc
    refine ⟨v, w, run_append_owned_none w base 30 ty 5 i0 1 Tryz.underlying30 hi v n xs hown, ?_, gr_refl _ _, .inl rfl⟩
    unfold byU
    rw [h0]
    simpa [byV] using hown
  | some x =>
    have hlb : (byU l).length = len * 1 := by rw [byU_len, hl, Nat.mul_one]
    have hnews : ∀ (j : Nat) (u : Value), (byU l)[j]? = some u → w.cell? (x.add j) = some u := by
      intro j u hu
      have hj : j < len := by
        have := (List.getElem?_eq_some_iff.1 hu).1
        rw [byU_len] at this
        omega
      rcases hr with ⟨h1, _⟩ | ⟨b, off, r⟩
      · omega
      · obtain rfl : x = ⟨b, off, none⟩ := Option.some.inj r.at_
        rw [add_at, r.cell j hj, ← hu, byU_get (by omega)]
    obtain ⟨v', w', q1, q2, q3, _, q5⟩ := run_append_own_at (P := Tryz.prog) w base 30 ty 5 i0 (.int .u8 0) 1 1 Tryz.underlying30 hi hz0 hz1 hz2 rfl (by decide) v n xs hown x len cap (byU l) hlb hnews (fun u hu => by
      unfold byU byV at hu
      obtain ⟨z, _, rfl⟩ := List.mem_map.1 hu
      rfl) (by unfold maxLen; omega) (by omega) hb
    exact ⟨v', w', q1, q2, q3, q5⟩
theorem wpList_append_bs {w : World} {ops : Array Oper} {rest : List Oper} {o : Oper} {a : Act} {Q : Exit → Act → World → Prop} (hgd : o.guard = none) (s x : Operand) (ho : o.op = .call { callee := .builtin .append, args := #[s, x], argTypes := #[30, 30] })
    (base : Nat) (v : Value) (n : Nat) (xs : List Value) (hs : a.eval s = v) (hown : w.ownsRow base 5 1 v n xs) (b : Option Addr) (len cap : Nat) (l : List UInt8) (hx : a.eval x = .slice b len cap) (hl : l.length = len) (hr : Bs w b len cap (ints l)) (hn : n + len ≤ 100000000) (hb : base ≤ w.heap.size)
    (h : ∀ v' w', w'.ownsRow base 5 1 v' (n + len) (xs ++ byU l) → w.grownBy w' v.ownBlock → (v'.ownBlock = v.ownBlock ∨ v'.ownBlock = some w.heap.size) → wpList Tryz.prog ops Q rest (a.put o.dst v') w') :
    wpList Tryz.prog ops Q (o :: rest) a w := by
  refine wpList_plain hgd fun K hK => ?_
  obtain ⟨v', w', hr, h2, h3, h5⟩ := run_append_bs w base o.type hown hl hr hn hb
  unfold Oper.wp execOp
  simp only [ho, resolve, invoke, builtin, Sem.run_bind, Sem.run_pure, Result.andThen_ok, List.map_toArray, List.map_cons, List.map_nil, hs, hx, hr]
  exact hK _ _ (h v' w' h2 h3 h5)
def zeroIt : It := ⟨⟨#[]⟩, none, 0, 0, 0, 0, 0, 0, 0, false, false, false⟩
theorem item_size (i : It) : (Tryz.prog.info? 75).map (·.size) = some (itC i).size := by
  have h : (Tryz.prog.info? 75).map (·.size) = some 10 := by kernel_rfl
  exact h
theorem env_size (e : En) : (Tryz.prog.info? 35).map (·.size) = some (enC e).size := by
  have h : (Tryz.prog.info? 35).map (·.size) = some 4 := by kernel_rfl
  exact h
theorem item_one (i : It) : (itC i).all (·.oneCell') = true := by simp [itC, Value.oneCell']
theorem env_one (e : En) : (enC e).all (·.oneCell') = true := by simp [enC, Value.oneCell']
/-- A copy of bytes. -/
theorem Bs.alloc {w : World} {a : Option Addr} {len cap : Nat} {es : List Int} (h : Bs w a len cap es) (o : Obj) : Bs (w.alloc o) a len cap es := h.on (below_gr (World.grownBy_alloc w o none))
theorem owns_empty (w : World) : (w.alloc (.cells #[] 5)).ownsRow w.heap.size 5 1 (.slice (some ⟨w.heap.size, 0, none⟩) 0 0) 0 [] :=
  ⟨rfl, .inr ⟨w.heap.size, 0, #[], rfl, Nat.le_refl _, heap_alloc_new w _, Nat.le_refl _, Nat.zero_le _, rfl, rfl⟩⟩
theorem eql_nil (a : Option Addr) (n c : Nat) (w : World) : (binOp .eql 30 (.slice a n c) (.slice none 0 0)).run Tryz.prog w = .ok (.bool a.isNone) w := by
  simp only [binOp]
  simp [run_equal_slice_nil w 30 5 a n c Tryz.underlying30]
set_option maxRecDepth 100000 in
set_option maxHeartbeats 1000000 in
theorem clone_any {w : World} {a : Option Addr} {c : Nat} {l : List UInt8} (hl : l.length ≤ 100000) (hr : Bs w a l.length c (ints l)) :
    Calls Tryz.prog 89 #[.slice a l.length c] w fun e w' => ∃ a' c', e = .returned (.slice a' l.length c') ∧ ValAt w.heap.size w' a' c' l ∧ w.grownBy w' none := by
  obtain ⟨n, hn⟩ : ∃ n, l.length = n := ⟨_, rfl⟩
  unfold ValAt
  rw [hn] at hr hl ⊢
  cases a with
  | none =>
    obtain ⟨rfl, h0, rfl⟩ : n = 0 ∧ ints l = [] ∧ c = 0 := by
      rcases hr with ⟨h1, h2, h3⟩ | ⟨b, off, r⟩
      · exact ⟨h1, h2, h3 rfl⟩
      · cases r.at_
    have hb : byU l = [] := by unfold byU; rw [h0]; rfl
    have hE := fun W => eql_nil none 0 0 W
    clear hr
    go_enter Tryz.func89, Tryz.ntmps89
    go_wp2
    go_ret
    exact ⟨_, _, rfl, by rw [hb]; exact World.ownsRow_nil _ _ _ _, gr_refl _ _⟩
  | some x =>
    have hr2 := hr.alloc (.cells #[] 5)
    have ho := owns_empty w
    have hg0 := World.grownBy_alloc w (.cells #[] 5) none
    have hsz : w.heap.size ≤ (w.alloc (.cells #[] 5)).heap.size := hg0.size
    have hE := fun W => eql_nil (some x) n c W
    clear hr
    go_enter Tryz.func89, Tryz.ntmps89
    go_wp2_with (at_builtin; refine wpList_append_bs rfl _ _ rfl w.heap.size _ _ _ rfl ho _ _ _ l rfl hn hr2 (by omega) hsz ?_; intro v1 w1 hown1 hg1 hat1; rw [Nat.zero_add] at hown1)
    obtain ⟨a1, c1, rfl⟩ := own_shape hown1
    go_ret
    exact ⟨_, _, rfl, hown1, gr_new hg0 hg1 (Nat.le_refl _)⟩
end Go.Proofs.YtkfeafmpaodagaaGreatDoor

namespace Go.Proofs.YtkfeafmpaodagaaGreatDoor
open Go.RowKit

theorem it_val (v : Iv) (a a' : Option Addr) (c c' : Nat) : (itC (itOf v a c)).setIfInBounds 1 (.slice a' v.val.length c') = itC (itOf v a' c') := by simp [itC, itOf]
/-- An item that lies in a block is what is answered. -/
theorem it_ret {fn : Func} {W : World} {r : Nat} {i : It} {tmps : Array Value} {p : Tmp} {Post : Ending → World → Prop} (hf : fn.results = #[.cell p 75]) (hb : W.heap[r]? = some (.cells (itC i) 75 (0, 0))) (h4 : tmps.getD p undef = .pointer (some ⟨r, 0, none⟩))
    (h : Post (.returned (.agg (itC i))) W) : bodyPost Tryz.prog fn Post .ret { tmps := tmps, defers := [] } W :=
  bodyPost_ret (results_cell_row hf tmps W r 75 (itC i) (0, 0) _ h4 hb Tryz.underlying75 rfl (item_size i)) rfl h
set_option maxRecDepth 100000 in
set_option maxHeartbeats 1000000 in
theorem own_any (v : Iv) (hl : v.val.length ≤ 100000) {w : World} {a : Option Addr} {c : Nat} (hr : Bs w a v.val.length c (ints v.val)) :
    Calls Tryz.prog 54 #[.agg (itC (itOf v a c))] w fun e w' => ∃ a' c', e = .returned (.agg (itC (itOf v a' c'))) ∧ ValAt w.heap.size w' a' c' v.val ∧ w.grownBy w' none := by
  have H0 := (((LawF.bare w).box (.cells (itC (itOf v a c)) 75)).box (.cells (itC zeroIt) 75)).rot
  rw [World.size_alloc] at H0
  have hr0 := (hr.alloc (.cells (itC (itOf v a c)) 75)).alloc (.cells (itC zeroIt) 75)
  go_enter Tryz.func54, Tryz.ntmps54
  go_upto_region 1 with fail
  have hz : (w.alloc (.cells (itC (itOf v a c)) 75)).alloc (.cells (itC zeroIt) 75) = (w.alloc (.cells (itC (itOf v a c)) 75)).alloc (.cells #[.string ⟨#[]⟩, .slice none 0 0, .int .u32 0, .int .i64 0, .int .u64 0, .int .i64 0, .int .u64 0, .bool false, .bool false, .bool false] 75) := rfl
  rw [← hz]
  clear hz
  generalize (w.alloc (.cells (itC (itOf v a c)) 75)).alloc (.cells (itC zeroIt) 75) = W at *
  have c1 : W.cell? ⟨w.heap.size, 1, none⟩ = some (.slice a v.val.length c) := (it_cells H0.q.1).2.1
  have f1 : W.frozen? ⟨w.heap.size, 1, none⟩ = false := frozen_of_row _ _ _ _ _ H0.q.1
  go_wp2_with (first
    | (go_at_call 89; refine (clone_any hl hr0).mono ?_; rintro e w1 ⟨a1, c2, rfl, hv1, hg1⟩; have H1 := (hv1.new H0 hg1).rot; have c3 : w1.cell? ⟨w.heap.size, 1, none⟩ = some (.slice a v.val.length c) := (it_cells H1.q.1).2.1; have f3 : w1.frozen? ⟨w.heap.size, 1, none⟩ = false := frozen_of_row _ _ _ _ _ H1.q.1; have H2 := H1.setAt 1 (.slice a1 v.val.length c2); rw [it_val] at H2)
    | (refine wpList_load_row rfl 75 _ rfl w.heap.size rfl _ (itC (itOf v a1 c2)) _ _ H2.q.1 Tryz.underlying75 rfl (item_size _) ?_; have H3 := H2.rin.rot)
    | (refine wpList_store_row rfl 75 _ _ rfl (w.heap.size + 1) (itC (itOf v a1 c2)) rfl rfl _ (itC zeroIt) H3.q.1 (item_size _) rfl (item_one _) ?_; have H4 := H3.setRow (itC (itOf v a1 c2))))
  exact it_ret rfl H4.q.1 rfl ⟨a1, c2, rfl, ValAt.base H4.q.2.1.2.1.1 H0.gr.size, H4.grownN⟩
end Go.Proofs.YtkfeafmpaodagaaGreatDoor
