/- All of package table, and the contracts of package table, all of them. Conditions: at most 5000 texts, of at most 300 bytes each. -/
import Derived.Test.YtkfeafmpaodagaaGreatDoorG23Joined
import Derived.Deep.RegionHeld3
import Derived.Test.YtkfeafmpaodagaaGreatDoorG22Joined
namespace Go.Proofs.YtkfeafmpaodagaaGreatDoor
open Go.RowKit Go.Shelf

/-- One part among others. -/
structure Sub (P A : Part) : Prop where
  q : ∀ W, A.q W → P.q W
  own : ∀ k, P.own k → A.own k
theorem sub_here {P R : Part} : Sub P (P.and R) := ⟨fun _ h => h.1, fun _ h => .inl h⟩
theorem sub_next {P B R : Part} (h : Sub P R) : Sub P (B.and R) := ⟨fun W hq => h.q W hq.2.1, fun k hk => .inr (h.own k hk)⟩
abbrev NoF : Nat → Prop := fun _ => False
section
variable {w W W' : World} {P A : Part}
theorem LawF.get (H : LawF NoF w W A) (s : Sub P A) : P.q W ∧ ∀ k, P.own k → w.heap.size ≤ k ∧ k < W.heap.size := ⟨s.q W H.q, fun k hk => ⟨(H.lt k (s.own k hk)).2.elim (fun h => h.elim) id, (H.lt k (s.own k hk)).1⟩⟩
/-- A new row of entries. -/
abbrev nwP (w : World) (a : Option Addr) (c : Nat) (l : List Kv) : Part := rowP w.heap.size 184 2 (.slice a l.length c) l.length (enV l)
theorem LawF.aBox {k : Nat} {x : Value} {t : TypeId} (H : LawF NoF w W A) (s : Sub (boxP k (.cells #[x] t)) A) : W.cell? ⟨k, 0, none⟩ = some x ∧ W.frozen? ⟨k, 0, none⟩ = false ∧ w.heap.size ≤ k :=
  ⟨boxT_cell (H.get s).1, frozen_of_row _ _ 0 _ _ (H.get s).1, ((H.get s).2 k rfl).1⟩
theorem LawF.box2 (H : LawF NoF w W A) (o o' : Obj) : LawF NoF w ((W.alloc o).alloc o') ((boxP (W.heap.size + 1) o').and ((boxP W.heap.size o).and A)) := by
  have h := (H.box o).box o'
  rwa [World.size_alloc] at h
theorem LawF.boxD (H : LawF NoF w w.drew A) (o : Obj) : LawF NoF w (w.drew.alloc o) ((boxP w.heap.size o).and A) := H.box o
theorem LawF.grown (H : LawF NoF w W A) : w.grownBy W none := H.gr.to fun _ h => h.elim
theorem own_base {n0 n1 n size : Nat} {e : TypeId} {v : Value} {xs : List Value} (h : w.ownsRow n1 e size v n xs) (hn : n0 ≤ n1) : w.ownsRow n0 e size v n xs := by
  refine ⟨h.1, ?_⟩
  rcases h.2 with h1 | ⟨g, cap, cur, hv, h2, h3⟩
  · exact .inl h1
  · exact .inr ⟨g, cap, cur, hv, Nat.le_trans hn h2, h3⟩
theorem cat_step {va : Value} {n : Nat} {f : Nat → Value} {L : Nat → List Kv} (hc : CatArg W va n f L) (H : LawF NoF w W A) {Q : Ending → World → Prop} (k : ∀ a c W', LawF NoF w W' ((nwP w a c (flatN n L)).and A) → Q (.returned (.slice a (flatN n L).length c)) W') :
    Calls Tryz.prog 115 #[va] W Q := by
  refine (concat_any hc).mono ?_
  rintro e W' ⟨v, rfl, hr, hg⟩
  obtain ⟨a, c, rfl⟩ := own_shape hr
  refine k a c W' (H.new hg (own_base hr H.size) fun j hj => ?_)
  have := own_at hr hj
  exact ⟨this.1, this.2.1⟩
theorem cat_old {va vX : Value} {n : Nat} {f : Nat → Value} {L : Nat → List Kv} (hX : CatArg w vX n f L) (H : LawF NoF w W A) (e : va = vX) {Q : Ending → World → Prop} (k : ∀ a c W', LawF NoF w W' ((nwP w a c (flatN n L)).and A) → Q (.returned (.slice a (flatN n L).length c)) W') :
    Calls Tryz.prog 115 #[va] W Q := by
  subst e
  exact cat_step (hX.step H.grown) H k
def two {α : Type} (x y : α) : Nat → α := fun i => if i = 0 then x else y
theorem flat_two (x y : List Kv) : flatN 2 (two x y) = x ++ y := by simp [flatN, two, List.range_succ]
theorem cat_two {B : Nat} {a1 a2 : Option Addr} {c1 c2 : Nat} {l1 l2 : List Kv} (H : LawF NoF w W A) (s1 : Sub (nwP w a1 c1 l1) A) (s2 : Sub (nwP w a2 c2 l2) A) (sb : Sub (boxP B (.cells #[.slice a1 l1.length c1, .slice a2 l2.length c2] 181)) A) (hl : (l1 ++ l2).length ≤ 50000)
    {Q : Ending → World → Prop} (k : ∀ a c W', LawF NoF w W' ((nwP w a c (l1 ++ l2)).and A) → Q (.returned (.slice a (l1 ++ l2).length c)) W') : Calls Tryz.prog 115 #[.slice (some ⟨B, 0, none⟩) 2 2] W Q := by
  have hc : CatArg W (.slice (some ⟨B, 0, none⟩) 2 2) 2 (two (.slice a1 l1.length c1) (.slice a2 l2.length c2)) (two l1 l2) := by
    refine ⟨⟨rfl, .inr ⟨B, 2, _, rfl, Nat.zero_le _, (H.get sb).1, Nat.le_refl _, by unfold maxLen; omega, rfl, rfl⟩⟩, fun i hi => ?_, by rw [flat_two]; exact hl, by omega⟩
    have : i = 0 ∨ i = 1 := by omega
    rcases this with rfl | rfl
    · exact own_base (H.get s1).1 (Nat.zero_le _)
    · exact own_base (H.get s2).1 (Nat.zero_le _)
  have h := cat_step hc H (Q := Q)
  rw [flat_two] at h
  exact h k
/-- All entries in one new row, in a variable of their own. -/
def AllMid (w W : World) (B : Nat) (l : List Kv) : Prop := ∃ a c, LawF NoF w W ((nwP w a c l).and ((boxP B (.cells #[.slice a l.length c] 181)).and Part.emp))
theorem mid_alloc {a : Option Addr} {c : Nat} {l : List Kv} (H : LawF NoF w W ((nwP w a c l).and A)) : AllMid w (W.alloc (.cells #[.slice a l.length c] 181)) W.heap.size l := by
  have H1 := (H.weak (B := (nwP w a c l).and Part.emp) (fun h => ⟨h.1, trivial, fun _ _ h => h⟩) fun _ hk => hk.elim .inl fun h => h.elim).box (.cells #[.slice a l.length c] 181)
  exact ⟨a, c, H1.rot⟩
theorem mid_set {a : Option Addr} {c B : Nat} {x : Value} {l : List Kv} (H : LawF NoF w W ((nwP w a c l).and A)) (sb : Sub (boxP B (.cells #[x] 181)) A) : AllMid w (W.setCell ⟨B, 0, none⟩ (.slice a l.length c)) B l := by
  have H1 : LawF NoF w W ((boxP B (.cells #[x] 181)).and ((nwP w a c l).and Part.emp)) := H.weak (fun h => ⟨sb.q W h.2.1, ⟨h.1, trivial, fun _ _ h => h⟩, fun k h1 h2 => h2.elim (fun h3 => h.2.2 k h3 (sb.own k h1)) id⟩) fun k hk => hk.elim (fun h => .inr (sb.own k h)) fun h => h.elim .inl fun h => h.elim
  exact ⟨a, c, (H1.setAt 0 (.slice a l.length c)).rot⟩
end
theorem keepC {w W : World} {A : Part} {b : Nat} {vE vB : Value} (c3 : w.cell? ⟨b, 3, none⟩ = some vE) (c2 : w.cell? ⟨b, 2, none⟩ = some vB) (H : LawF NoF w W A) : W.cell? ⟨b, 3, none⟩ = some vE ∧ W.cell? ⟨b, 2, none⟩ = some vB := ⟨cell_grown0 H.grown c3, cell_grown0 H.grown c2⟩
theorem keepS {w W : World} {A : Part} {b k : Nat} {vE vB u : Value} (c3 : w.cell? ⟨b, 3, none⟩ = some vE) (c2 : w.cell? ⟨b, 2, none⟩ = some vB) (H : LawF NoF w W A) (hk : w.heap.size ≤ k) : (W.setCell ⟨k, 0, none⟩ u).cell? ⟨b, 3, none⟩ = some vE ∧ (W.setCell ⟨k, 0, none⟩ u).cell? ⟨b, 2, none⟩ = some vB := by
  have hb : b < w.heap.size := World.block_lt_of_cell? w _ c3
  have e : (W.setCell ⟨k, 0, none⟩ u).heap[b]? = W.heap[b]? := heap_setCell_other _ _ _ _ (show b ≠ k by omega)
  obtain ⟨h1, h2⟩ := keepC c3 c2 H
  unfold World.cell? at *
  rw [e]
  exact ⟨h1, h2⟩
set_option maxRecDepth 100000 in
set_option maxHeartbeats 8000000 in
theorem tall_any {w : World} {b : Nat} {own : Nat → Prop} {st : Ts} (h : Tb0 w b own st) (hS : SmallT st 5000) : Calls Tryz.prog 82 #[.pointer (some ⟨b, 0, none⟩)] w fun e w' => ∃ B a c, e = .returned (.func (.func 119) #[] #[.pointer (some ⟨B, 0, none⟩)]) ∧ LawF NoF w w' ((nwP w a c st.l).and ((boxP B (.cells #[.slice a st.l.length c] 181)).and Part.emp)) := by
  have hG := h.good
  obtain ⟨sd, vB, vE, bv, ev, B, E, L⟩ := h.tab
  have hlen := L.fit.perm.length_eq
  rw [List.length_append] at hlen
  have h5 := hS.len
  have hN := hS.buckets
  have hroom := hG.room
  obtain ⟨-, -, c2, c3⟩ := head4 L.law.q.1
  have hE : CatArg w vE st.left ev E := ⟨L.law.q.2.1.2.1.2.1.1, fun i hi => L.law.q.2.1.2.1.2.1.2.1.1.1 i hi, by omega, by omega⟩
  have hB : CatArg w vB st.buckets bv B := ⟨L.law.q.2.1.1, fun i hi => L.law.q.2.1.2.1.1.1 i hi, by omega, by omega⟩
  have hnd : NodupK (flatN st.left E ++ flatN st.buckets B) := (rising_nodup hG.rise).perm L.fit.perm.symm
  have HPerm := hide L.fit.perm
  have HRise := hide hG.rise
  have hl50 : (flatN st.left E ++ flatN st.buckets B).length ≤ 50000 := by rw [List.length_append]; omega
  have H := hide (LawF.bare w).drew
  have HE := hide hE
  have HB := hide hB
  clear h hS hG L hlen h5 hN hroom hE hB
  obtain ⟨l1, hl1⟩ : ∃ l, flatN st.left E = l := ⟨_, rfl⟩
  obtain ⟨l2, hl2⟩ : ∃ l, flatN st.buckets B = l := ⟨_, rfl⟩
  have C1 : Hid (∀ (va : Value) (W : World) (A : Part), LawF NoF w W A → va = vE → ∀ Q : Ending → World → Prop, (∀ a c W', LawF NoF w W' ((nwP w a c l1).and A) → Q (.returned (.slice a l1.length c)) W') → Calls Tryz.prog 115 #[va] W Q) := fun va W A H e Q k => by
    subst hl1
    exact cat_old HE.out H e k
  have C2 : Hid (∀ (va : Value) (W : World) (A : Part), LawF NoF w W A → va = vB → ∀ Q : Ending → World → Prop, (∀ a c W', LawF NoF w W' ((nwP w a c l2).and A) → Q (.returned (.slice a l2.length c)) W') → Calls Tryz.prog 115 #[va] W Q) := fun va W A H e Q k => by
    subst hl2
    exact cat_old HB.out H e k
  rw [hl1, hl2] at hnd HPerm hl50
  obtain ⟨l3, hl3⟩ : ∃ l, l1 ++ l2 = l := ⟨_, rfl⟩
  have C3 : Hid (∀ (B : Nat) (a1 a2 : Option Addr) (c1 c2 : Nat) (W : World) (A : Part), LawF NoF w W A → Sub (nwP w a1 c1 l1) A → Sub (nwP w a2 c2 l2) A → Sub (boxP B (.cells #[.slice a1 l1.length c1, .slice a2 l2.length c2] 181)) A → ∀ Q : Ending → World → Prop, (∀ a c W', LawF NoF w W' ((nwP w a c l3).and A) → Q (.returned (.slice a l3.length c)) W') → Calls Tryz.prog 115 #[.slice (some ⟨B, 0, none⟩) 2 2] W Q) := fun B a1 a2 c1 c2 W A H s1 s2 sb Q k => by
    subst hl3
    exact cat_two H s1 s2 sb hl50 k
  rw [hl3] at hnd HPerm hl50
  clear HE HB hl1 hl2 hl3
  go_enter Tryz.func82, Tryz.ntmps82
  go_upto_region 1 with fail
  go_cut [3] from 3 to 15 (fun s wx => ∃ B, s = .pointer (some ⟨B, 0, none⟩) ∧ Hid (AllMid w wx B l3))
  case first =>
    go_region_held3 (fun w' => w'.cell? ⟨b, 3, none⟩ = some vE ∧ w'.cell? ⟨b, 2, none⟩ = some vB) (first | exact keepC c3 c2 H.out | exact keepC c3 c2 (H.out.box _) | exact keepC c3 c2 (H.out.box2 _ _) | exact keepS c3 c2 H.out bl)
      ((first
        | (go_at_call 115; refine C1.out _ _ _ (by first | exact H.out | exact LawF.boxD H.out _ | exact H.out.box _ | exact H.out.box2 _ _) (by rfl) _ ?_; intro a1 c1 W1 H1; replace H := hide H1)
        | (go_at_call 115; refine C2.out _ _ _ (by first | exact H.out | exact H.out.box _ | exact H.out.box2 _ _) (by rfl) _ ?_; intro a2 c2' W2 H2; replace H := hide H2)
        | (go_at_call 115; refine C3.out _ _ _ _ _ _ _ (by first | exact H.out.box _ | exact H.out.box2 _ _) (by first | exact sub_here | exact sub_next sub_here | exact sub_next (sub_next sub_here) | exact sub_next (sub_next (sub_next sub_here)) | exact sub_next (sub_next (sub_next (sub_next sub_here))) | exact sub_next (sub_next (sub_next (sub_next (sub_next sub_here))))) (by first | exact sub_here | exact sub_next sub_here | exact sub_next (sub_next sub_here) | exact sub_next (sub_next (sub_next sub_here)) | exact sub_next (sub_next (sub_next (sub_next sub_here))) | exact sub_next (sub_next (sub_next (sub_next (sub_next sub_here))))) (by first | exact sub_here | exact sub_next sub_here | exact sub_next (sub_next sub_here) | exact sub_next (sub_next (sub_next sub_here)) | exact sub_next (sub_next (sub_next (sub_next sub_here))) | exact sub_next (sub_next (sub_next (sub_next (sub_next sub_here))))) _ ?_; intro a3 c3' W3 H3; replace H := hide H3; first | (obtain ⟨bc, bf, bl⟩ := H3.aBox (x := .slice none 0 0) (t := 181) (sub_next sub_here)) | (obtain ⟨bc, bf, bl⟩ := H3.aBox (x := .slice none 0 0) (t := 181) (sub_next (sub_next sub_here))) | (obtain ⟨bc, bf, bl⟩ := H3.aBox (x := .slice none 0 0) (t := 181) (sub_next (sub_next (sub_next sub_here)))) | (obtain ⟨bc, bf, bl⟩ := H3.aBox (x := .slice none 0 0) (t := 181) (sub_next (sub_next (sub_next (sub_next sub_here))))) | (obtain ⟨bc, bf, bl⟩ := H3.aBox (x := .slice none 0 0) (t := 181) (sub_next (sub_next (sub_next (sub_next (sub_next sub_here)))))) | skip)))
    all_goals
      go_wp2_with fail
      go_meet
      first
        | exact ⟨_, rfl, hide (mid_alloc H.out)⟩
        | exact ⟨_, rfl, hide (mid_set H.out (by first | exact sub_here | exact sub_next sub_here | exact sub_next (sub_next sub_here) | exact sub_next (sub_next (sub_next sub_here)) | exact sub_next (sub_next (sub_next (sub_next sub_here))) | exact sub_next (sub_next (sub_next (sub_next (sub_next sub_here))))))⟩
  case rest =>
    obtain ⟨B3, rfl, a, c, H⟩ := hcut
    have hbc := boxT_cell (show wc.heap[B3]? = some (.cells #[.slice a l3.length c] 181) from H.q.2.1.1)
    have HSo := hide (sort_any H hnd hl50)
    have hlen : l3.length = st.l.length := HPerm.out.length_eq
    have HX : Hid (∀ l', Rising l' → l'.Perm l3 → l' = st.l) := fun l' h1 h2 => rising_ext h1 HRise.out fun p => (h2.trans HPerm.out).mem_iff
    have HLn := hide hlen
    clear C1 C2 C3 H hnd hl50 hlen HPerm HRise c2 c3
    obtain ⟨n3, hn3⟩ : ∃ n, l3.length = n := ⟨_, rfl⟩
    rw [hn3] at hbc HSo HLn
    go_wp2_with (go_at_call 116; refine HSo.out.mono ?_; rintro e w5 ⟨rfl, l', r1, r2, H5⟩; replace H5 := hide H5)
    go_ret
    have e := HX.out l' r1 r2
    subst e
    have h := H5.out
    rw [HLn.out] at h
    exact ⟨B3, a, c, rfl, h⟩
theorem Tb0.kept {w w' : World} {b : Nat} {own : Nat → Prop} {st : Ts} (h : Tb0 w b own st) (hs : ∀ k, own k → w'.heap[k]? = w.heap[k]?) : Tb0 w' b own st := by
  obtain ⟨sd, vB, vE, bv, ev, B, E, rfl, h2, h3, r⟩ := h
  refine ⟨sd, vB, vE, bv, ev, B, E, rfl, (tabP b sd st.l.length vB vE st.buckets st.left bv ev B E).on w w' h2 hs, fun k hk => ?_, r⟩
  have e := hs k hk
  have hlt := h3 k hk
  rw [Array.getElem?_eq_getElem hlt] at e
  exact (Array.getElem?_eq_some_iff.1 e).1
theorem Tb0.lt {w : World} {b : Nat} {own : Nat → Prop} {st : Ts} (h : Tb0 w b own st) : ∀ k, own k → k < w.heap.size := by
  obtain ⟨_, _, _, _, _, _, _, _, _, h3, _⟩ := h
  exact h3
theorem table_lib : TableLib Tb0 where
  lt := fun h => h.lt
  good := fun h => h.good
  keep := fun h hs => h.kept hs
  new := fun sd hsd w => tnew_any sd hsd w
  put := fun h hS s hs v _ => tput_any h hS s hs v
  get := fun h hS s hs => tget_any h hS s hs
  delete := fun h hS s hs => tdel_any h hS s hs
  len := fun h _ => (tlen_any h).mono fun e w' hh => ⟨hh.1, by rw [hh.2]; exact h, by rw [hh.2]; exact gr_refl _ _⟩
  all := fun {w b own st} h hS => (tall_any h hS).mono fun e w' ⟨B, a, c, he, H⟩ => by
    have hg := H.grown
    have hbx := (H.get (P := boxP B (.cells #[.slice a st.l.length c] 181)) (sub_next sub_here))
    have hrw := (H.get (P := nwP w a c st.l) sub_here)
    have hs5 := hS.len
    refine ⟨_, _, fun k => own k ∨ (k = B ∨ (Value.slice a st.l.length c).ownBlock = some k), he, h.kept fun k hk => hg.block k (h.lt k hk) (by simp), hg, fun k hk => .inl hk, fun k hk => ?_, enters_of Tryz.func119 (by kernel_rfl) rfl, fun n hn => ?_⟩
    · rcases hk with hk | rfl | hk
      · exact .inl hk
      · exact .inr (hbx.2 _ rfl)
      · exact .inr (hrw.2 k hk)
    · exact (told_seq n (by omega) (by omega) hbx.1 hrw.1).wide fun k hk => .inr hk
end Go.Proofs.YtkfeafmpaodagaaGreatDoor
