/- Look, Use, Used, Len, Drops and Update of package shard. Conditions: the contracts of the packages beneath it; at most 900 stores, keys of at most 300 bytes, values of at most 3000. Update and New of package shard. Conditions: the contracts of the packages beneath it; at most 900 stores, keys of at most 300 bytes, values of at most 3000. New of package shard, and the word that says what a shard in memory has. Conditions: the contracts of the packages beneath it. -/
import Derived.Test.YtkfeafmpaodagaaGreatDoorG27Joined
import Derived.Test.YtkfeafmpaodagaaGreatDoorG45Joined
namespace Go.Proofs.YtkfeafmpaodagaaGreatDoor
open Go.RowKit Go.Shelf
variable {Sl : World → Nat → (Nat → Prop) → Sb → Prop} {Ls : World → Nat → (Nat → Prop) → Sr → Prop} {Jd : World → Nat → List Nat → Nat → Js → Prop} {Tb : World → Nat → (Nat → Prop) → Ts → Prop}

/-- One of a list leaves it; another one without blocks comes in its place. -/
theorem LawF.outIn {F : Nat → Prop} {w0 w : World} {l : List Part} {A A' R : Part} (H : LawF F w0 w ((allP l).and R)) (i : Nat) (hi : l[i]? = some A) (hq : A'.q w) (ho : ∀ k, ¬ A'.own k) : LawF F w0 w ((allP (l.set i A')).and (A.and R)) := by
  have hil : i < l.length := (List.getElem?_eq_some_iff.1 hi).1
  have at_ : ∀ j C, (l.set i A')[j]? = some C → (j = i ∧ C = A') ∨ (j ≠ i ∧ l[j]? = some C) := fun j C hj => by
    by_cases e : j = i
    · subst e
      rw [List.getElem?_set_self hil] at hj
      cases hj
      exact .inl ⟨rfl, rfl⟩
    · rw [List.getElem?_set_ne (fun e' => e e'.symm)] at hj
      exact .inr ⟨e, hj⟩
  obtain ⟨⟨h1, h2⟩, hR, hx⟩ := H.q
  refine H.weak (B := (allP (l.set i A')).and (A.and R)) (fun _ => ⟨⟨fun j C hj => ?_, fun j m C D hjm hj hm k hC hD => ?_⟩, ⟨h1 i A hi, hR, fun k ha hr => hx k ⟨i, A, hi, ha⟩ hr⟩, ?_⟩) ?_
  · rcases at_ j C hj with ⟨_, e⟩ | ⟨_, hj⟩
    · rw [e]
      exact hq
    · exact h1 j C hj
  · rcases at_ j C hj with ⟨_, e⟩ | ⟨_, hj⟩
    · rw [e] at hC
      exact ho k hC
    · rcases at_ m D hm with ⟨_, e⟩ | ⟨_, hm⟩
      · rw [e] at hD
        exact ho k hD
      · exact h2 j m C D hjm hj hm k hC hD
  · rintro k ⟨j, C, hj, hk⟩ hr
    rcases at_ j C hj with ⟨_, e⟩ | ⟨hne, hj⟩
    · rw [e] at hk
      exact ho k hk
    · rcases hr with hr | hr
      · exact h2 j i C A hne hj hi k hk hr
      · exact hx k ⟨j, C, hj, hk⟩ hr
  · rintro k (⟨j, C, hj, hk⟩ | hk | hk)
    · rcases at_ j C hj with ⟨_, e⟩ | ⟨_, hj⟩
      · rw [e] at hk
        exact (ho k hk).elim
      · exact .inl ⟨j, C, hj, hk⟩
    · exact .inl ⟨i, A, hi, hk⟩
    · exact .inr hk
/-- An item in the result's block, and a truth value. -/
theorem look_ret {fn : Func} {W : World} {r : Nat} {i : It} {q : Value} {tmps : Array Value} {p t : Tmp} {Post : Ending → World → Prop} (hf : fn.results = #[.cell p 75, .tmp t]) (hb : W.heap[r]? = some (.cells (itC i) 75 (0, 0))) (h4 : tmps.getD p undef = .pointer (some ⟨r, 0, none⟩)) (h5 : tmps.getD t undef = q)
    (h : Post (.returned (.tuple #[.agg (itC i), q])) W) : bodyPost Tryz.prog fn Post .ret { tmps := tmps, defers := [] } W := by
  have hl := run_loadVar_row (P := Tryz.prog) W r _ 75 _ _ _ hb Tryz.underlying75 rfl (item_size i)
  have hr : (results fn tmps).run Tryz.prog W = .ok (.tuple #[.agg (itC i), q]) W := by
    rw [results_cell_tmp hf, h4, h5]
    simp only [asAddr, Sem.run_pure, Result.andThen_ok, hl]
  exact bodyPost_ret hr rfl h
section
variable {L : Libs Sl Ls Jd Tb} {F : Nat → Prop} {w0 w : World} {b sd n : Nat} {st : Hs} {x : Sx} {R : Part}
def LookX (L : Libs Sl Ls Jd Tb) (F : Nat → Prop) (w0 : World) (b sd n : Nat) (R : Part) (st : Hs) (s : ByteArray) (en : En) (E : List Eb) (e : Ending) (w' : World) : Prop :=
  (livB s en E = none ∧ e = .returned (.tuple #[.agg (itC zeroIt), .bool false]) ∧ After L F w0 w' b sd n R (lookH st s en) (lookB s en E)) ∨
  ∃ y a c x', livB s en E = some y ∧ e = .returned (.tuple #[.agg (itC (itOf y.iv a c)), .bool true]) ∧ LawF F w0 w' ((shP L b sd (lookH st s en) x').and ((valP w0.heap.size a c y.iv.val).and R)) ∧ Fit n (lookH st s en) x'
theorem val_base {n0 n1 : Nat} {a : Option Addr} {c : Nat} {l : List UInt8} {A : Part} (H : LawF F w0 w ((valP n0 a c l).and A)) (hn : n1 ≤ n0) : LawF F w0 w ((valP n1 a c l).and A) := H.weak1 (fun h => ValAt.base h hn) fun _ hk => hk
set_option maxRecDepth 100000 in
set_option maxHeartbeats 4000000 in
theorem look_in (H : LawF F w0 w ((shP L b sd st x).and R)) (f : Fit n st x) (hn : n ≤ 4398046511104) (s : ByteArray) (hs : s.size ≤ 140737488351232) (en : En) (hen : en.ok) :
    Calls Tryz.prog 29 #[.pointer (some ⟨b, 0, none⟩), .string s, .agg (enC en)] w (LookX L F w0 b sd n R st s en x.E) := by
  have H0 := ((H.box (.cells (enC en) 35)).box (.cells (itC zeroIt) 75)).rin.rot.rin
  rw [World.size_alloc] at H0
  clear H
  cases hl : livB s en x.E with
  | none =>
    have HL := hide hl
    clear hl
    go_enter Tryz.func29, Tryz.ntmps29
    go_wp2_with (first
      | (refine wpList_load_row rfl 35 _ rfl w.heap.size rfl _ (enC en) _ _ H0.rot.q.1 Tryz.underlying35 rfl (env_size _) ?_)
      | (go_at_call 53; refine (living_in H0 f hn s hs en hen).mono ?_; rw [HL.out]; rintro e w3 ⟨he, x3, H3, f3, hE3⟩; have he2 : e = .returned (.pointer none) := he; subst he2; clear he; replace H3 := H3.rin.rot)
      | (refine wpList_store_row rfl 75 _ _ rfl (w.heap.size + 1) (itC zeroIt) rfl rfl _ (itC zeroIt) H3.q.1 (item_size _) rfl (item_one _) ?_; have H4 := H3.setRow (itC zeroIt)))
    refine look_ret rfl H4.q.1 rfl rfl (.inl ⟨HL.out, rfl, x3, ?_, f3, hE3⟩)
    exact H4.right.unbox
  | some y =>
    have HL := hide hl
    have hm : lookB s en x.E = x.E ∧ y ∈ x.E := by
      unfold livB at hl
      unfold lookB
      cases hf : findB s x.E with
      | none =>
        rw [hf] at hl
        cases hl
      | some z =>
        rw [hf] at hl
        dsimp only at hl ⊢
        by_cases hv : liveI z.iv en = true
        · rw [if_pos hv] at hl
          rw [if_pos hv]
          cases hl
          exact ⟨rfl, (findB_some hf).1⟩
        · rw [if_neg hv] at hl
          cases hl
    have hl3 := f.valOk hm.2
    have HM := hide hm
    clear hl hm
    go_enter Tryz.func29, Tryz.ntmps29
    go_wp2_with (first
      | (refine wpList_load_row rfl 35 _ rfl w.heap.size rfl _ (enC en) _ _ H0.rot.q.1 Tryz.underlying35 rfl (env_size _) ?_)
      | (go_at_call 53; refine (living_in H0 f hn s hs en hen).mono ?_; rw [HL.out]; rintro e w3 ⟨he, x3, H3, f3, hE3⟩; have he2 : e = .returned (.pointer (some ⟨y.blk, 0, none⟩)) := he; subst he2; clear he; have hy3 : y ∈ x3.E := (by rw [hE3, HM.out.1]; exact HM.out.2); have r3 := (ent_cells (H3.entAt hy3)).1; have b3 := (H3.valAt hy3).bs)
      | (refine wpList_load_mid rfl 75 _ rfl y.blk 0 rfl (itC y.it).toList _ r3 Tryz.underlying75 rfl (by rw [item_size y.it, Array.length_toList]) ?_)
      | (go_at_call 54; refine (own_any y.iv (Nat.le_trans hl3 (by decide)) b3).mono ?_; rintro e w4 ⟨a4, c4, rfl, hv, hg⟩; have H4 := ((hv.new H3 hg).rot.rin.unbox.rin).rot; have hsz := H3.gr.size; clear hv hg)
      | (refine wpList_store_row rfl 75 _ _ rfl (w.heap.size + 1) (itC (itOf y.iv a4 c4)) rfl rfl _ (itC zeroIt) H4.q.1 (item_size _) rfl (item_one _) ?_; have H5 := H4.setRow (itC (itOf y.iv a4 c4))))
    refine look_ret rfl H5.q.1 rfl rfl (.inr ⟨y, a4, c4, x3, HL.out, rfl, ?_, f3⟩)
    exact (val_base H5.right.rot hsz).rot
set_option maxHeartbeats 2000000 in
theorem use_in (H : LawF F w0 w ((shP L b sd st x).and R)) (f : Fit n st x) (hn : n ≤ 4398046511104) (s : ByteArray) (hs : s.size ≤ 140737488351232) :
    Calls Tryz.prog 30 #[.pointer (some ⟨b, 0, none⟩), .string s] w fun e w' => (∃ v, e = .returned v) ∧ After L F w0 w' b sd n R (useH sd st s) x.E := by
  have hsm : s.size ≤ maxLen := Nat.le_trans hs (by decide)
  have hlR := Nat.le_of_lt (f.lenR hn)
  obtain ⟨-, -, -, c3, -⟩ := H.headC
  go_enter Tryz.func30, Tryz.ntmps30
  go_wp2_with (first
    | (go_at_call 55; refine (L.jd.touch H.judge s hs).mono ?_; rintro e w1 ⟨⟨v, rfl⟩, hJ, hg⟩; have H1 := H.toJudge hJ hg; clear hJ hg; obtain ⟨-, -, c2, -, -⟩ := H1.headC)
    | (go_at_call 56; refine (L.ls.hit H1.list hlR s hsm).mono ?_; rintro e w2 ⟨rfl, own2, hL, hg, hgr⟩; have H2 := H1.toList hL hg hgr; clear hL hg hgr))
  go_end0
  exact ⟨⟨_, rfl⟩, _, H2, ⟨f.small, f.tab, f.ents, f.blks, goodH_use f.good sd s⟩, rfl⟩
set_option maxHeartbeats 2000000 in
theorem used_in (H : LawF F w0 w ((shP L b sd st x).and R)) (f : Fit n st x) (hn : n ≤ 4398046511104) :
    Calls Tryz.prog 47 #[.pointer (some ⟨b, 0, none⟩)] w fun e w' => e = .returned (.int .i64 (usedS st.slab)) ∧ w.grownBy w' none := by
  have hsS := f.smallS hn
  obtain ⟨-, c1, -⟩ := H.headC
  go_enter Tryz.func47, Tryz.ntmps47
  go_wp2_with (go_at_call 84; refine (L.sl.used H.slab hsS).mono ?_; rintro e w1 ⟨rfl, hS, hg⟩)
  go_ret
  exact ⟨rfl, hg⟩
set_option maxHeartbeats 2000000 in
theorem len_in (H : LawF F w0 w ((shP L b sd st x).and R)) (f : Fit n st x) (hn : n ≤ 4398046511104) :
    Calls Tryz.prog 81 #[.pointer (some ⟨b, 0, none⟩)] w fun e w' => e = .returned (.int .i64 st.ents.length) ∧ w.grownBy w' none := by
  have h5 := f.small5 hn
  have hl : (x.ts.l.length : Int) = (st.ents.length : Int) := by rw [f.tab, f.ents, List.length_map, List.length_map]
  have HL := hide hl
  obtain ⟨c0, -⟩ := H.headC
  clear hl
  go_enter Tryz.func81, Tryz.ntmps81
  go_wp2_with (go_at_call 114; refine (L.tb.len H.tabl h5).mono ?_; rintro e w1 ⟨he, hT, hg⟩; rw [HL.out] at he; subst he)
  go_ret
  exact ⟨rfl, hg⟩
set_option maxHeartbeats 2000000 in
theorem drops_in (H : LawF F w0 w ((shP L b sd st x).and R)) (f : Fit n st x) :
    Calls Tryz.prog 18 #[.pointer (some ⟨b, 0, none⟩)] w fun e w' => e = .returned x.vd ∧ LawF F w0 w' ((shP L b sd (quietH st) { x with vd := .slice none 0 0 }).and ((dropsP x.vd st.drops).and R)) ∧ Fit n (quietH st) { x with vd := .slice none 0 0 } := by
  have hf' : Fit n (quietH st) { x with vd := .slice none 0 0 } := ⟨f.small, f.tab, f.ents, f.blks, goodH_quiet f.good⟩
  obtain ⟨-, -, -, -, c4⟩ := H.headC
  have f4 := frozen_of_row w b 4 _ _ H.head
  obtain ⟨a, cap, hvd⟩ := own_shape H.dropsR
  have HV := hide hvd
  rw [hvd] at c4
  clear hvd
  have H1 : LawF F w0 (w.setCell ⟨b, 4, none⟩ (.slice none 0 0)) ((shP L b sd (quietH st) { x with vd := .slice none 0 0 }).and ((dropsP x.vd st.drops).and R)) := by
    have hq := H.headSet (.slice none 0 0)
    have Ha := H.turnIn (A := headP b x) (A' := headP b { x with vd := .slice none 0 0 }) 0 rfl hq.2 (fun k hk => by rw [World.size_setCell]; exact H.atLt (A := headP b x) 0 rfl k hk) hq.1 fun _ hk => .inl hk
    exact Ha.outIn (A := dropsP x.vd st.drops) (A' := dropsP (.slice none 0 0) []) 5 rfl (World.ownsRow_nil _ _ _ _) fun k hk => by cases hk
  go_enter Tryz.func18, Tryz.ntmps18
  go_wp2
  go_ret
  exact ⟨by rw [HV.out]; rfl, H1, hf'⟩
end
end Go.Proofs.YtkfeafmpaodagaaGreatDoor

namespace Go.Proofs.YtkfeafmpaodagaaGreatDoor
open Go.RowKit Go.Shelf
variable {Sl : World → Nat → (Nat → Prop) → Sb → Prop} {Ls : World → Nat → (Nat → Prop) → Sr → Prop} {Jd : World → Nat → List Nat → Nat → Js → Prop} {Tb : World → Nat → (Nat → Prop) → Ts → Prop}

def swapB (y : Eb) (E : List Eb) : List Eb := E.map fun z => if z.blk = y.blk then y else z
theorem mem_swapB {y y0 z : Eb} {E : List Eb} (h0 : y0 ∈ E) (hb : y0.blk = y.blk) : z ∈ swapB y E ↔ z = y ∨ (z ∈ E ∧ z.blk ≠ y.blk) := by
  unfold swapB
  rw [List.mem_map]
  constructor
  · rintro ⟨u, hu, rfl⟩
    by_cases e : u.blk = y.blk
    · rw [if_pos e]
      exact .inl rfl
    · rw [if_neg e]
      exact .inr ⟨hu, e⟩
  · rintro (rfl | ⟨hz, hne⟩)
    · exact ⟨y0, h0, if_pos hb⟩
    · exact ⟨z, hz, if_neg hne⟩
theorem swapB_blk (y : Eb) (E : List Eb) : (swapB y E).map Eb.blk = E.map Eb.blk := by
  unfold swapB
  rw [List.map_map]
  refine List.map_congr_left fun z _ => ?_
  show (if z.blk = y.blk then y else z).blk = z.blk
  split
  · rename_i e
    exact e.symm
  · rfl
theorem swapB_kv {y y0 : Eb} {E : List Eb} (hn : (E.map Eb.blk).Nodup) (h0 : y0 ∈ E) (hb : y0.blk = y.blk) (hk : y0.iv.key = y.iv.key) : (swapB y E).map Eb.kv = E.map Eb.kv := by
  unfold swapB
  rw [List.map_map]
  refine List.map_congr_left fun z hz => ?_
  show (if z.blk = y.blk then y else z).kv = z.kv
  split
  · rename_i e
    have : z = y0 := blk_inj hn hz h0 (e.trans hb.symm)
    rw [this]
    unfold Eb.kv
    rw [hk, hb]
  · rfl
theorem swapB_ent {y y0 : Eb} {E : List Eb} (hr : RisingE (E.map Eb.ent)) (hn : (E.map Eb.blk).Nodup) (h0 : y0 ∈ E) (hb : y0.blk = y.blk) (hk : y0.iv.key = y.iv.key) : (swapB y E).map Eb.ent = putE y.ent (E.map Eb.ent) := by
  have hkv := swapB_kv hn h0 hb hk
  have hr' : RisingE ((swapB y E).map Eb.ent) := by
    have h1 := rising_of_ents hr
    rw [← hkv] at h1
    unfold Rising at h1
    unfold RisingE
    rw [List.pairwise_map] at h1 ⊢
    exact h1
  refine risingE_ext hr' (risingE_put hr) fun e => ?_
  rw [List.mem_map, mem_putE]
  have same : ∀ z ∈ E, z.blk = y.blk ↔ z.iv.key = y.iv.key := fun z hz => by
    constructor
    · intro e
      rw [blk_inj hn hz h0 (e.trans hb.symm), hk]
    · intro e
      have : z.ent = y0.ent := rising_key hr (List.mem_map.2 ⟨z, hz, rfl⟩) (List.mem_map.2 ⟨y0, h0, rfl⟩) (e.trans hk.symm)
      by_cases hzb : z = y0
      · rw [hzb, hb]
      · have hp : ∀ {l : List Eb}, RisingE (l.map Eb.ent) → ∀ u ∈ l, ∀ v ∈ l, u.iv.key = v.iv.key → u = v := by
          intro l hl
          induction l with
          | nil => intro u hu; cases hu
          | cons c l ih =>
            rw [List.map_cons] at hl
            have hl' := List.pairwise_cons.1 hl
            intro u hu v hv huv
            rcases List.mem_cons.1 hu with eu | hu
            · rcases List.mem_cons.1 hv with ev | hv
              · rw [eu, ev]
              · exact absurd (eu ▸ huv) (ltK_ne (hl'.1 v.ent (List.mem_map.2 ⟨v, hv, rfl⟩)))
            · rcases List.mem_cons.1 hv with ev | hv
              · exact absurd (ev ▸ huv.symm) (ltK_ne (hl'.1 u.ent (List.mem_map.2 ⟨u, hu, rfl⟩)))
              · exact ih hl'.2 u hu v hv huv
        exact absurd (hp hr z hz y0 h0 (e.trans hk.symm)) hzb
  constructor
  · rintro ⟨z, hz, rfl⟩
    rcases (mem_swapB h0 hb).1 hz with rfl | ⟨hz, hne⟩
    · exact .inl rfl
    · exact .inr ⟨List.mem_map.2 ⟨z, hz, rfl⟩, fun e => hne ((same z hz).2 e)⟩
  · rintro (rfl | ⟨he, hne⟩)
    · exact ⟨y, (mem_swapB h0 hb).2 (.inl rfl), rfl⟩
    · obtain ⟨z, hz, rfl⟩ := List.mem_map.1 he
      exact ⟨z, (mem_swapB h0 hb).2 (.inr ⟨hz, fun e => hne ((same z hz).1 e)⟩), rfl⟩
section
variable {L : Libs Sl Ls Jd Tb} {F : Nat → Prop} {w0 w : World} {b sd n : Nat} {st : Hs} {x : Sx} {R : Part}
theorem ent_there {W : World} {y : Eb} (h : W.heap[y.blk]? = some (.cells y.cells 130 (0, 0))) : W.there y.blk 0 10 := fun j hj => by
  refine ⟨?_, ?_⟩
  · unfold World.cell?
    rw [h]
    show (y.cells[0 + j]?).isSome = true
    rw [Nat.zero_add]
    have : j < y.cells.size := Nat.lt_of_lt_of_le hj (show 10 ≤ y.cells.size by unfold Eb.cells; rw [Array.size_append]; exact Nat.le_add_right _ _)
    rw [Array.getElem?_eq_getElem this]
    rfl
  · exact frozen_of_row _ _ _ _ _ h
theorem setL_ent (y : Eb) (i : Iv) (a' : Option Addr) (c' : Nat) : setL y.cells 0 (itC (itOf i a' c')).toList = (⟨y.blk, i, y.ck, a', c'⟩ : Eb).cells := by
  have h1 : y.cells = [.string y.iv.key, .slice y.a y.iv.val.length y.c, .int .u32 y.iv.fl, .int .i64 y.iv.exp, .int .u64 y.iv.cas, .int .i64 y.iv.sec, .int .u64 y.iv.seq, .bool y.iv.st, .bool y.iv.won, .bool y.iv.seen, .int .i64 y.ck.1, .int .i64 y.ck.2].toArray := rfl
  have h2 : (itC (itOf i a' c')).toList = [.string i.key, .slice a' i.val.length c', .int .u32 i.fl, .int .i64 i.exp, .int .u64 i.cas, .int .i64 i.sec, .int .u64 i.seq, .bool i.st, .bool i.won, .bool i.seen] := rfl
  rw [h1, h2]
  simp [setL, Eb.cells, Eb.it, itC, itOf]
theorem LawF.updE {i : Iv} {a' : Option Addr} {c' n0 : Nat} {y : Eb} (H : LawF F w0 w ((shP L b sd st x).and ((valP n0 a' c' i.val).and R))) (hy : y ∈ x.E) (es : List Ent) :
    LawF F w0 (w.setCells y.blk 0 (itC (itOf i a' c')).toList) ((shP L b sd { st with ents := es } { x with E := swapB ⟨y.blk, i, y.ck, a', c'⟩ x.E }).and R) := by
  have hg := setL_grow (k := y.blk) (itC (itOf i a' c')).toList 0 w
  have hn := setL_heap (itC (itOf i a' c')).toList 0 w y.cells (H.entAt hy)
  rw [setL_ent] at hn
  have H1 := H.turnIn (A := entsP x.E) (A' := entsP (swapB ⟨y.blk, i, y.ck, a', c'⟩ x.E)) 6 rfl (fun z hz => by
    rcases (mem_swapB (y := ⟨y.blk, i, y.ck, a', c'⟩) hy rfl).1 hz with rfl | ⟨hz, hne⟩
    · exact hn
    · exact (hg.block z.blk (H.atLt (A := entsP x.E) 6 rfl _ ⟨z, hz, rfl⟩) hne).trans (H.entAt hz)) (fun k ⟨z, hz, e⟩ => by
    rcases (mem_swapB (y := ⟨y.blk, i, y.ck, a', c'⟩) hy rfl).1 hz with rfl | ⟨hz, hne⟩
    · exact Nat.lt_of_lt_of_le (H.atLt (A := entsP x.E) 6 rfl _ ⟨y, hy, e⟩) hg.size
    · exact Nat.lt_of_lt_of_le (H.atLt (A := entsP x.E) 6 rfl _ ⟨z, hz, e⟩) hg.size) (gr_sub hg fun k hk => ⟨y, hy, hk.symm⟩) fun k ⟨z, hz, e⟩ => (by
    rcases (mem_swapB (y := ⟨y.blk, i, y.ck, a', c'⟩) hy rfl).1 hz with rfl | ⟨hz, hne⟩
    · exact .inl ⟨y, hy, e⟩
    · exact .inl ⟨z, hz, e⟩)
  exact H1.mergeIn (A := valsP x.E) (A' := valsP (swapB ⟨y.blk, i, y.ck, a', c'⟩ x.E)) 7 rfl (fun h1 h2 z hz => by
    rcases (mem_swapB (y := ⟨y.blk, i, y.ck, a', c'⟩) hy rfl).1 hz with rfl | ⟨hz, _⟩
    · exact ValAt.base h2 (Nat.zero_le _)
    · exact h1 z hz) fun k ⟨z, hz, e⟩ => (by
    rcases (mem_swapB (y := ⟨y.blk, i, y.ck, a', c'⟩) hy rfl).1 hz with rfl | ⟨hz, _⟩
    · exact .inr e
    · exact .inl ⟨z, hz, e⟩)
theorem LawF.keyC {k : Nat} {i : Iv} {a : Option Addr} {c : Nat} {t : TypeId} {A : Part} (H : LawF F w0 w (A.and ((boxP k (.cells (itC (itOf i a c)) t)).and R))) : w.cell? ⟨k, 0, none⟩ = some (.string i.key) ∧ w.cell? ⟨k, 1, none⟩ = some (.slice a i.val.length c) := by
  have h : w.heap[k]? = some (.cells (itC (itOf i a c)) t (0, 0)) := H.rot.q.1
  exact ⟨(it_cells h).1, (it_cells h).2.1⟩
theorem upd_find (f : Fit n st x) (i : Iv) : updErr st i = (match findB i.key x.E with | none => 6 | some y => if i.val.length = y.iv.val.length then 0 else 1) ∧ updH st i = (match findB i.key x.E with | none => st | some y => if i.val.length = y.iv.val.length then { st with ents := putE (i, y.ck) st.ents } else st) := by
  unfold updErr updH
  rw [f.find]
  cases findB i.key x.E with
  | none => exact ⟨rfl, rfl⟩
  | some y => exact ⟨rfl, rfl⟩
set_option maxRecDepth 100000 in
set_option maxHeartbeats 8000000 in
theorem update_in (H : LawF F w0 w ((shP L b sd st x).and R)) (f : Fit n st x) (hn : n ≤ 4398046511104) (i : Iv) (hi : i.ok) (a : Option Addr) (c : Nat) (hrd : ReadAt w0 F a c i.val) :
    Calls Tryz.prog 98 #[.pointer (some ⟨b, 0, none⟩), .agg (itC (itOf i a c))] w fun e w' => e = .returned (.int .i64 (updErr st i)) ∧ ∃ E, After L F w0 w' b sd n R (updH st i) E := by
  have mixed : Tryz.prog.follows .mixedOrders = true := by kernel_rfl
  have hk3 := hi.key
  have hv3 := hi.val
  have h5 := f.small5 hn
  obtain ⟨g1, g2, -⟩ := f.got i.key
  obtain ⟨u1, u2⟩ := upd_find f i
  have hgd := goodH_upd f.good hi
  have H0 := (H.box (.cells (itC (itOf i a c)) 75)).rot.drew
  obtain ⟨c0, -⟩ := H0.headC
  have c1 := H0.keyC.1
  clear H
  cases hf : findB i.key x.E with
  | none =>
    rw [hf] at g1 g2 u1 u2
    have K := hide (show ptrO (getL i.key x.ts.l) = .pointer none ∧ hasT x.ts i.key = false from ⟨g1, g2⟩)
    rw [u1, u2]
    clear g1 g2 u1 u2 hgd
    go_enter Tryz.func98, Tryz.ntmps98
    go_upto_region 1 with fail
    go_region_held (fun w' => w'.cell? ⟨b, 0, none⟩ = some (.pointer (some ⟨x.tb, 0, none⟩)) ∧ w'.cell? ⟨w.heap.size, 0, none⟩ = some (.string i.key)) (first | exact ⟨d0, d1⟩ | exact ⟨c0, c1⟩) ((go_at_call 86; refine (L.tb.get H0.tabl h5 i.key hk3).mono ?_; rintro e w1 ⟨he, own1, hT, hg, hgr⟩; rw [K.out.1, K.out.2] at he; subst he; have H1 := H0.toTab hT hg hgr; clear hT hg hgr; obtain ⟨d0, -⟩ := H1.headC; have d1 := H1.keyC.1))
    all_goals
      go_wp2
      go_ret
      exact ⟨rfl, x.E, _, H1.unbox, ⟨smallT_step f.small, f.tab, f.ents, f.blks, f.good⟩, rfl⟩
  | some y =>
    rw [hf] at g1 g2 u1 u2
    dsimp only at u1 u2
    have K := hide (show ptrO (getL i.key x.ts.l) = .pointer (some ⟨y.blk, 0, none⟩) ∧ hasT x.ts i.key = true from ⟨g1, g2⟩)
    have hy := (findB_some hf).1
    have hkey := (findB_some hf).2
    have hyv := f.valOk hy
    obtain ⟨p, hp⟩ : ∃ p, i.val.length = p := ⟨_, rfl⟩
    obtain ⟨q, hq⟩ : ∃ q, y.iv.val.length = q := ⟨_, rfl⟩
    by_cases hl : i.val.length = y.iv.val.length
    · rw [if_pos hl] at u1 u2
      have hv9 : i.val.length ≤ 100000 := by omega
      have hpq : ((p : Int) != (q : Int)) = false := by rw [← hp, ← hq, hl]; simp
      have hgd2 := hide (show GoodH n { st with ents := putE (i, y.ck) st.ents } from by rw [← u2]; exact hgd)
      rw [u1, u2]
      have HK := hide hkey
      have HP := hide hp
      have HQ := hide hq
      clear g1 g2 u1 u2 hgd hl hkey
      go_enter Tryz.func98, Tryz.ntmps98
      go_upto_region 1 with fail
      go_region_held (fun w' => w'.cell? ⟨b, 0, none⟩ = some (.pointer (some ⟨x.tb, 0, none⟩)) ∧ w'.cell? ⟨w.heap.size, 0, none⟩ = some (.string i.key)) (first | exact ⟨d0, d1⟩ | exact ⟨c0, c1⟩) ((go_at_call 86; refine (L.tb.get H0.tabl h5 i.key hk3).mono ?_; rintro e w1 ⟨he, own1, hT, hg, hgr⟩; rw [K.out.1, K.out.2] at he; subst he; have H1 := H0.toTab hT hg hgr; clear hT hg hgr; obtain ⟨d0, -⟩ := H1.headC; have d1 := H1.keyC.1))
      all_goals
        go_upto_region 4 with fail
        have e1 := H1.keyC.2
        have e2 := (ent_cells (H1.entAt hy)).2.2.2
        rw [HP.out] at e1
        rw [HQ.out] at e2
        go_quiet (fail)
        have H2 := H1.drewN nq
        clear H1 e1 e2
        go_wp2_with (first
          | (refine wpList_load_row rfl 75 _ rfl w.heap.size rfl _ (itC (itOf i a c)) _ _ H2.rot.q.1 Tryz.underlying75 rfl (item_size _) ?_)
          | (go_at_call 54; refine (own_any i hv9 (hrd.on H2.gr)).mono ?_; rintro e w4 ⟨a4, c4, rfl, hv, hg⟩; have H4 := (hv.new H2 hg).rot; have ht := ent_there (H4.entAt hy); have H5 := H4.updE hy (putE (i, y.ck) st.ents); clear hv hg)
          | (refine wpList_store_mid rfl 75 _ _ rfl y.blk 0 (itC (itOf i a4 c4)) rfl rfl ht (item_size _) (item_one _) ?_))
        go_ret
        exact ⟨rfl, _, _, H5.unbox, ⟨smallT_step f.small, by show x.ts.l = _; rw [f.tab]; exact (swapB_kv (y := ⟨y.blk, i, y.ck, a4, c4⟩) f.blks hy rfl HK.out).symm, by show putE (i, y.ck) st.ents = _; rw [f.ents]; exact (swapB_ent (y := ⟨y.blk, i, y.ck, a4, c4⟩) (by rw [← f.ents]; exact f.good.rise) f.blks hy rfl HK.out).symm, by rw [swapB_blk]; exact f.blks, hgd2.out⟩, rfl⟩
    · rw [if_neg hl] at u1 u2
      have hpq : ((p : Int) != (q : Int)) = true := by
        have : (p : Int) ≠ (q : Int) := fun e => hl (by omega)
        simpa using this
      rw [u1, u2]
      have HP := hide hp
      have HQ := hide hq
      clear g1 g2 u1 u2 hgd hl hkey
      go_enter Tryz.func98, Tryz.ntmps98
      go_upto_region 1 with fail
      go_region_held (fun w' => w'.cell? ⟨b, 0, none⟩ = some (.pointer (some ⟨x.tb, 0, none⟩)) ∧ w'.cell? ⟨w.heap.size, 0, none⟩ = some (.string i.key)) (first | exact ⟨d0, d1⟩ | exact ⟨c0, c1⟩) ((go_at_call 86; refine (L.tb.get H0.tabl h5 i.key hk3).mono ?_; rintro e w1 ⟨he, own1, hT, hg, hgr⟩; rw [K.out.1, K.out.2] at he; subst he; have H1 := H0.toTab hT hg hgr; clear hT hg hgr; obtain ⟨d0, -⟩ := H1.headC; have d1 := H1.keyC.1))
      all_goals
        go_upto_region 4 with fail
        have e1 := H1.keyC.2
        have e2 := (ent_cells (H1.entAt hy)).2.2.2
        rw [HP.out] at e1
        rw [HQ.out] at e2
        go_quiet (fail)
        have H2 := H1.drewN nq
        go_wp2
        go_ret
        exact ⟨rfl, x.E, _, H2.unbox, ⟨smallT_step f.small, f.tab, f.ents, f.blks, f.good⟩, rfl⟩
end
end Go.Proofs.YtkfeafmpaodagaaGreatDoor

namespace Go.Proofs.YtkfeafmpaodagaaGreatDoor
open Go.RowKit Go.Shelf
variable {Sl : World → Nat → (Nat → Prop) → Sb → Prop} {Ls : World → Nat → (Nat → Prop) → Sr → Prop} {Jd : World → Nat → List Nat → Nat → Js → Prop} {Tb : World → Nat → (Nat → Prop) → Ts → Prop}

theorem allP_q {l : List Part} {w : World} : (allP l).q w ↔ (∀ A ∈ l, A.q w) ∧ l.Pairwise (fun A B => ∀ k, A.own k → ¬ B.own k) := by
  constructor
  · rintro ⟨h1, h2⟩
    refine ⟨fun A hA => ?_, ?_⟩
    · obtain ⟨i, hi⟩ := List.getElem?_of_mem hA
      exact h1 i A hi
    · rw [List.pairwise_iff_getElem]
      intro i j hi hj hij
      exact h2 i j _ _ (Nat.ne_of_lt hij) (List.getElem?_eq_getElem hi) (List.getElem?_eq_getElem hj)
  · rintro ⟨h1, h2⟩
    refine ⟨fun i A hi => h1 A (List.mem_of_getElem? hi), fun i j A B hij hi hj k hA hB => ?_⟩
    rw [List.pairwise_iff_getElem] at h2
    obtain ⟨hi1, ei⟩ := List.getElem?_eq_some_iff.1 hi
    obtain ⟨hj1, ej⟩ := List.getElem?_eq_some_iff.1 hj
    rcases Nat.lt_or_gt_of_ne hij with h | h
    · exact h2 i j hi1 hj1 h k (by rw [ei]; exact hA) (by rw [ej]; exact hB)
    · exact h2 j i hj1 hi1 h k (by rw [ej]; exact hB) (by rw [ei]; exact hA)
theorem allP_own {l : List Part} {k : Nat} : (allP l).own k ↔ ∃ A ∈ l, A.own k := by
  constructor
  · rintro ⟨i, A, hi, hk⟩
    exact ⟨A, List.mem_of_getElem? hi, hk⟩
  · rintro ⟨A, hA, hk⟩
    obtain ⟨i, hi⟩ := List.getElem?_of_mem hA
    exact ⟨i, A, hi, hk⟩
theorem LawF.cons0 {F : Nat → Prop} {w0 w : World} {A R : Part} (H : LawF F w0 w R) (hq : A.q w) (ho : ∀ k, ¬ A.own k) : LawF F w0 w (A.and R) :=
  ⟨H.gr, ⟨hq, H.q, fun k ha => (ho k ha).elim⟩, fun k hk => hk.elim (fun h => (ho k h).elim) (H.lt k)⟩
section
variable {L : Libs Sl Ls Jd Tb} {F : Nat → Prop} {w0 w : World} {b sd n : Nat} {st : Hs} {x : Sx} {R : Part}
/-- What a shard in memory has. -/
def Sh0 (L : Libs Sl Ls Jd Tb) (w : World) (b : Nat) (own : Nat → Prop) (sd n : Nat) (st : Hs) : Prop := ∃ x, own = (shP L b sd st x).own ∧ (shP L b sd st x).q w ∧ (∀ k, own k → k < w.heap.size) ∧ Fit n st x
theorem Sh0.law {own : Nat → Prop} (h : Sh0 L w b own sd n st) : ∃ x, LawF own w w ((shP L b sd st x).and Part.emp) ∧ Fit n st x := by
  obtain ⟨x, rfl, h2, h3, h4⟩ := h
  refine ⟨x, ⟨Gr.refl _ _, ⟨h2, trivial, fun _ _ h => h.elim⟩, fun k hk => ?_⟩, h4⟩
  rcases hk with hk | hk
  · exact ⟨h3 k hk, .inl hk⟩
  · exact hk.elim
theorem Sh0.of (H : LawF F w0 w ((shP L b sd st x).and R)) (f : Fit n st x) : Sh0 L w b (shP L b sd st x).own sd n st ∧ Gr F w0 w ∧ Grew w0 F (shP L b sd st x).own :=
  ⟨⟨x, rfl, H.q.1, fun k hk => (H.lt k (.inl hk)).1, f⟩, H.gr, fun k hk => (H.lt k (.inl hk)).2⟩
theorem Sh0.keep {w' : World} {own : Nat → Prop} (h : Sh0 L w b own sd n st) (hs : SameOn own w w') : Sh0 L w' b own sd n st := by
  obtain ⟨x, rfl, h2, h3, h4⟩ := h
  refine ⟨x, rfl, (shP L b sd st x).on w w' h2 hs, fun k hk => ?_, h4⟩
  have h5 := h3 k hk
  have h6 := hs k hk
  rw [Array.getElem?_eq_getElem h5] at h6
  exact (Array.getElem?_eq_some_iff.1 h6).1
theorem new_made {bud most : Int} {W : World} {tb sb ob jb : Nat} {tw so oo : Nat → Prop} {js : List Nat} (H : LawF (fun _ => False) w W ((judgeP L jb js sd freshJ).and ((listP L ob oo (freshR most)).and ((slabPt L sb so (freshS bud)).and ((tableP L tb tw freshT).and Part.emp))))) :
    LawF (fun _ => False) w (W.alloc (.cells #[.pointer (some ⟨tb, 0, none⟩), .pointer (some ⟨sb, 0, none⟩), .pointer (some ⟨ob, 0, none⟩), .pointer (some ⟨jb, 0, none⟩), .slice none 0 0] 62)) ((shP L W.heap.size sd (freshH bud most) ⟨tb, tw, freshT, sb, so, ob, oo, jb, js, .slice none 0 0, []⟩).and Part.emp) := by
  have hz : (allP [dropsP (.slice none 0 0) [], entsP [], valsP []]).q W := by
    rw [allP_q]
    refine ⟨fun A hA => ?_, ?_⟩
    · simp only [List.mem_cons, List.not_mem_nil, or_false] at hA
      rcases hA with rfl | rfl | rfl
      · exact World.ownsRow_nil _ _ _ _
      · intro z hz
        cases hz
      · intro z hz
        cases hz
    · refine List.pairwise_cons.2 ⟨fun A _ k hk => (by cases hk), List.pairwise_cons.2 ⟨fun A _ k hk => (by obtain ⟨z, hz, _⟩ := hk; cases hz), List.pairwise_singleton _ _⟩⟩
  have ho : ∀ k, ¬ (allP [dropsP (.slice none 0 0) [], entsP [], valsP []]).own k := fun k hk => by
    obtain ⟨A, hA, h⟩ := allP_own.1 hk
    simp only [List.mem_cons, List.not_mem_nil, or_false] at hA
    rcases hA with rfl | rfl | rfl
    · cases h
    · obtain ⟨z, hz, _⟩ := h
      cases hz
    · obtain ⟨z, hz, _⟩ := h
      cases hz
  have H1 := (((((H.cons0 hz ho).rot.consP).rot.consP).rot.consP).rot.consP).box (.cells #[.pointer (some ⟨tb, 0, none⟩), .pointer (some ⟨sb, 0, none⟩), .pointer (some ⟨ob, 0, none⟩), .pointer (some ⟨jb, 0, none⟩), .slice none 0 0] 62)
  exact H1.consP
set_option maxHeartbeats 2000000 in
theorem shNew_any (sd : Nat) (bud most : Int) (hsd : sd < 18446744073709551616) (hb : I64 bud) (hm : I64 most) (w : World) :
    Calls Tryz.prog 7 #[.int .u64 sd, .int .i64 bud, .int .i64 most] w fun e w' => ∃ b own, e = .returned (.pointer (some ⟨b, 0, none⟩)) ∧ (∀ k, own k → w.heap.size ≤ k) ∧ Sh0 L w' b own sd 0 (freshH bud most) ∧ w.grownBy w' none := by
  have H := LawF.bare w
  go_enter Tryz.func7, Tryz.ntmps7
  go_wp2_with (first
    | (go_at_call 22; refine (L.tb.new sd hsd _).mono ?_; rintro e w1 ⟨tb, tw, rfl, h1, h2, h3⟩; replace H := H.new (A := tableP L tb tw freshT) h3 h2 fun k hk => ⟨h1 k hk, L.tb.lt h2 k hk⟩; clear h1 h2 h3)
    | (go_at_call 23; refine (L.sl.new bud hb _).mono ?_; rintro e w2 ⟨sb, so, rfl, h1, h2, h3⟩; replace H := H.new (A := slabPt L sb so (freshS bud)) h3 h2 fun k hk => ⟨h1 k hk, L.sl.lt h2 k hk⟩; clear h1 h2 h3)
    | (go_at_call 24; refine (L.ls.new most hm _).mono ?_; rintro e w3 ⟨ob, oo, rfl, h1, h2, h3⟩; replace H := H.new (A := listP L ob oo (freshR most)) h3 h2 fun k hk => ⟨h1 k hk, L.ls.lt h2 k hk⟩; clear h1 h2 h3)
    | (go_at_call 25; refine (L.jd.new sd hsd _).mono ?_; rintro e w4 ⟨jb, js, rfl, h1, h2, h3⟩; replace H := H.new (A := judgeP L jb js sd freshJ) h3 h2 fun k hk => ⟨h1 k hk, L.jd.lt h2 k hk⟩; clear h1 h2 h3))
  go_ret
  have H1 := new_made H
  exact ⟨_, _, rfl, fun k hk => (H1.lt k (.inl hk)).2.resolve_left id, (Sh0.of H1 ⟨smallT_mono smallT_fresh (by decide), rfl, rfl, List.nodup_nil, goodH_fresh bud most 0 (by decide)⟩).1, H1.grownN⟩
end
end Go.Proofs.YtkfeafmpaodagaaGreatDoor
