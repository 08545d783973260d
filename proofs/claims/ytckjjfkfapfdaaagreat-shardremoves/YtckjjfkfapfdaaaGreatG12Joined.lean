/- What a new entry is to the table and to the entries; parts that become one. Conditions: none. Look, Use, Used, Len, Drops and Update of package shard. Conditions: the contracts of the packages beneath it; at most 900 stores, keys of at most 300 bytes, values of at most 3000. Update and New of package shard. Conditions: the contracts of the packages beneath it; at most 900 stores, keys of at most 300 bytes, values of at most 3000. -/
import Derived.Test.YtckjjfkfapfdaaaGreatG11Joined
namespace Go.Proofs.YtckjjfkfapfdaaaGreat
open Go.RowKit Go.Shelf
variable {Sl : World → Nat → (Nat → Prop) → Sb → Prop} {Ls : World → Nat → (Nat → Prop) → Sr → Prop} {Jd : World → Nat → List Nat → Nat → Js → Prop} {Tb : World → Nat → (Nat → Prop) → Ts → Prop}

/-- Another part becomes one with one of a list. -/
theorem LawF.mergeIn {F : Nat → Prop} {w0 w : World} {l : List Part} {A A' B R : Part} (H : LawF F w0 w ((allP l).and (B.and R))) (i : Nat) (hi : l[i]? = some A) (hq : A.q w → B.q w → A'.q w) (ho : ∀ k, A'.own k → A.own k ∨ B.own k) : LawF F w0 w ((allP (l.set i A')).and R) := by
  have hil : i < l.length := (List.getElem?_eq_some_iff.1 hi).1
  have at_ : ∀ j C, (l.set i A')[j]? = some C → (j = i ∧ C = A') ∨ (j ≠ i ∧ l[j]? = some C) := fun j C hj => by
    by_cases e : j = i
    · subst e
      rw [List.getElem?_set_self hil] at hj
      cases hj
      exact .inl ⟨rfl, rfl⟩
    · rw [List.getElem?_set_ne (fun e' => e e'.symm)] at hj
      exact .inr ⟨e, hj⟩
  obtain ⟨⟨h1, h2⟩, ⟨hB, hR, hBR⟩, hx⟩ := H.q
  have noB : ∀ (j : Nat) (C : Part), l[j]? = some C → ∀ k, C.own k → ¬ B.own k := fun j C hj k hc hb => hx k ⟨j, C, hj, hc⟩ (.inl hb)
  refine H.weak (B := (allP (l.set i A')).and R) (fun _ => ⟨⟨fun j C hj => ?_, fun j m C D hjm hj hm k hC hD => ?_⟩, hR, ?_⟩) ?_
  · rcases at_ j C hj with ⟨_, rfl⟩ | ⟨_, hj⟩
    · exact hq (h1 i A hi) hB
    · exact h1 j C hj
  · rcases at_ j C hj with ⟨ej, eC⟩ | ⟨hne, hj⟩
    · rcases at_ m D hm with ⟨em, _⟩ | ⟨hne, hm⟩
      · exact hjm (ej.trans em.symm)
      · rw [eC] at hC
        rcases ho k hC with h | h
        · exact h2 i m A D (fun e => hne e.symm) hi hm k h hD
        · exact noB m D hm k hD h
    · rcases at_ m D hm with ⟨em, eD⟩ | ⟨_, hm⟩
      · rw [eD] at hD
        rcases ho k hD with h | h
        · exact h2 j i C A hne hj hi k hC h
        · exact noB j C hj k hC h
      · exact h2 j m C D hjm hj hm k hC hD
  · rintro k ⟨j, C, hj, hk⟩ hr
    rcases at_ j C hj with ⟨_, rfl⟩ | ⟨_, hj⟩
    · rcases ho k hk with h | h
      · exact hx k ⟨i, A, hi, h⟩ (.inr hr)
      · exact hBR k h hr
    · exact hx k ⟨j, C, hj, hk⟩ (.inr hr)
  · rintro k (⟨j, C, hj, hk⟩ | hk)
    · rcases at_ j C hj with ⟨_, rfl⟩ | ⟨_, hj⟩
      · rcases ho k hk with h | h
        · exact .inl ⟨i, A, hi, h⟩
        · exact .inr (.inl h)
      · exact .inl ⟨j, C, hj, hk⟩
    · exact .inr (.inr hk)
def putB (y : Eb) (E : List Eb) : List Eb := (E.filter fun x => ltK x.iv.key y.iv.key) ++ y :: E.filter fun x => ltK y.iv.key x.iv.key
theorem putB_ent (y : Eb) (E : List Eb) : (putB y E).map Eb.ent = putE y.ent (E.map Eb.ent) := by
  unfold putB putE
  rw [List.map_append, List.map_cons, List.filter_map, List.filter_map]
  rfl
theorem mem_putB {x y : Eb} {E : List Eb} (h : x ∈ putB y E) : x = y ∨ (x ∈ E ∧ x.iv.key ≠ y.iv.key) := by
  unfold putB at h
  rw [List.mem_append, List.mem_cons, List.mem_filter, List.mem_filter] at h
  rcases h with ⟨h1, h2⟩ | h | ⟨h1, h2⟩
  · exact .inr ⟨h1, ltK_ne h2⟩
  · exact .inl h
  · exact .inr ⟨h1, fun e => ltK_ne h2 e.symm⟩
theorem rising_of_ents {E : List Eb} (h : RisingE (E.map Eb.ent)) : Rising (E.map Eb.kv) := by
  unfold RisingE at h
  unfold Rising
  rw [List.pairwise_map] at h ⊢
  exact h
theorem putB_kv (y : Eb) {E : List Eb} (h : RisingE (E.map Eb.ent)) : (putB y E).map Eb.kv = putL y.iv.key y.blk (E.map Eb.kv) := by
  have h1 : Rising (E.map Eb.kv) := rising_of_ents h
  refine rising_ext (rising_of_ents (by rw [putB_ent]; exact risingE_put h)) (rising_put h1) fun p => ?_
  rw [mem_putL h1, List.mem_map]
  constructor
  · rintro ⟨z, hz, rfl⟩
    rcases mem_putB hz with rfl | ⟨hz, hne⟩
    · exact .inl rfl
    · exact .inr ⟨List.mem_map.2 ⟨z, hz, rfl⟩, hne⟩
  · have hm : ∀ z : Eb, (z = y ∨ (z ∈ E ∧ z.iv.key ≠ y.iv.key)) → z ∈ putB y E := fun z hz => by
      unfold putB
      rw [List.mem_append, List.mem_cons, List.mem_filter, List.mem_filter]
      rcases hz with rfl | ⟨h1, h2⟩
      · exact .inr (.inl rfl)
      · by_cases h3 : ltK z.iv.key y.iv.key = true
        · exact .inl ⟨h1, h3⟩
        · by_cases h4 : ltK y.iv.key z.iv.key = true
          · exact .inr (.inr ⟨h1, h4⟩)
          · exact absurd (ltK_total (Bool.eq_false_iff.2 h3) (Bool.eq_false_iff.2 h4)) h2
    rintro (rfl | ⟨hp, hne⟩)
    · exact ⟨y, hm y (.inl rfl), rfl⟩
    · obtain ⟨z, hz, rfl⟩ := List.mem_map.1 hp
      exact ⟨z, hm z (.inr ⟨hz, hne⟩), rfl⟩
theorem blk_inj {E : List Eb} (h : (E.map Eb.blk).Nodup) {a b : Eb} (ha : a ∈ E) (hb : b ∈ E) (e : a.blk = b.blk) : a = b := by
  induction E with
  | nil => cases ha
  | cons x l ih =>
    rw [List.map_cons, List.nodup_cons] at h
    rcases List.mem_cons.1 ha with ea | ha
    · rcases List.mem_cons.1 hb with eb | hb
      · rw [ea, eb]
      · exact absurd (List.mem_map.2 ⟨b, hb, by rw [← e, ea]⟩) h.1
    · rcases List.mem_cons.1 hb with eb | hb
      · exact absurd (List.mem_map.2 ⟨a, ha, by rw [e, eb]⟩) h.1
      · exact ih h.2 ha hb
theorem putB_blks {y : Eb} {E : List Eb} (h : (E.map Eb.blk).Nodup) (hy : ∀ x ∈ E, x.blk ≠ y.blk) : ((putB y E).map Eb.blk).Nodup := by
  have key : ∀ (p q : Eb → Bool), (∀ x, ¬ (p x = true ∧ q x = true)) → (((E.filter p) ++ y :: E.filter q).map Eb.blk).Nodup := fun p q hpq => by
    rw [List.map_append, List.map_cons, List.nodup_append]
    have inj := fun a ha b hb e => blk_inj h (a := a) (b := b) ha hb e
    refine ⟨(List.filter_sublist.map _).nodup h, List.nodup_cons.2 ⟨fun hm => ?_, (List.filter_sublist.map _).nodup h⟩, fun a ha b hb e => ?_⟩
    · obtain ⟨x, hx, ex⟩ := List.mem_map.1 hm
      exact hy x (List.mem_filter.1 hx).1 ex
    · obtain ⟨x, hx, rfl⟩ := List.mem_map.1 ha
      rcases List.mem_cons.1 hb with rfl | hb
      · exact hy x (List.mem_filter.1 hx).1 e
      · obtain ⟨z, hz, rfl⟩ := List.mem_map.1 hb
        have := inj x (List.mem_filter.1 hx).1 z (List.mem_filter.1 hz).1 e
        subst this
        exact hpq x ⟨(List.mem_filter.1 hx).2, (List.mem_filter.1 hz).2⟩
  exact key _ _ fun x ⟨h1, h2⟩ => by
    have := ltK_asymm h1
    rw [h2] at this
    cases this
section
variable {L : Libs Sl Ls Jd Tb} {F : Nat → Prop} {w0 w : World} {b sd n : Nat} {st : Hs} {x : Sx} {R : Part}
/-- A new entry, in blocks of its own, is one of the shard's. -/
theorem LawF.addE {y : Eb} {n0 : Nat} (H : LawF F w0 w ((shP L b sd st x).and ((boxP y.blk (.cells y.cells 104)).and ((valP n0 y.a y.c y.iv.val).and R)))) (E' : List Eb) (hE : ∀ z ∈ E', z = y ∨ z ∈ x.E) (es : List Ent) : LawF F w0 w ((shP L b sd { st with ents := es } { x with E := E' }).and R) := by
  have H1 := H.mergeIn (A := entsP x.E) (A' := entsP E') 6 rfl (fun h1 h2 z hz => (hE z hz).elim (fun e => by rw [e]; exact h2) (h1 z)) fun k ⟨z, hz, e⟩ => (hE z hz).elim (fun ez => .inr (by rw [← e, ez]; rfl)) fun hz => .inl ⟨z, hz, e⟩
  exact H1.mergeIn (A := valsP x.E) (A' := valsP E') 7 rfl (fun h1 h2 z hz => (hE z hz).elim (fun e => by rw [e]; exact ValAt.base h2 (Nat.zero_le _)) (h1 z)) fun k ⟨z, hz, e⟩ => (hE z hz).elim (fun ez => .inr (by rw [ez] at e; exact e)) fun hz => .inl ⟨z, hz, e⟩
end
/-- Bytes that may be read still may. -/
theorem ReadAt.on {w W : World} {F : Nat → Prop} {a : Option Addr} {c : Nat} {l : List UInt8} (h : ReadAt w F a c l) (hg : Gr F w W) : Bs W a l.length c (ints l) := by
  rcases h.1 with h1 | ⟨bl, off, r⟩
  · exact .inl h1
  · refine .inr ⟨bl, off, r.at_, r.one, r.cap_, r.len_, r.bd, fun i hi => ?_, Nat.lt_of_lt_of_le r.old hg.size⟩
    have hb : W.heap[bl]? = w.heap[bl]? := hg.block bl r.old (h.2 bl r.one (by rw [r.at_]; rfl))
    rw [World.cell?_of_block (w := w) hb]
    exact r.cell i hi
end Go.Proofs.YtckjjfkfapfdaaaGreat

namespace Go.Proofs.YtckjjfkfapfdaaaGreat
open Go.RowKit Go.Shelf
variable {Sl : World → Nat → (Nat → Prop) → Sb → Prop} {Ls : World → Nat → (Nat → Prop) → Sr → Prop} {Jd : World → Nat → List Nat → Nat → Js → Prop} {Tb : World → Nat → (Nat → Prop) → Ts → Prop}

/-- One of a list leaves it; another one without blocks comes in its place. -/
theorem LawF.outIn {F : Nat → Prop} {w0 w : World} {l : List Part} {A A' R : Part} (H : LawF F w0 w ((allP l).and R)) (i : Nat) (hi : l[i]? = some A) (hq : A'.q w) (ho : ∀ k, ¬ A'.own k) : LawF F w0 w ((allP (l.set i A')).and (A.and R)) := by
  have hil : i < l.length := (List.getElem?_eq_some_iff.1 hi).1
  have at_ : ∀ j C, (l.set i A')[j]? = some C → (j = i ∧ C = A') ∨ (j ≠ i ∧ l[j]? = some C) := fun j C hj => by
    by_cases e : j = i
    · subst e
      rw [List.getElem?_set_self hil] at hj
      cases hj
      exact .inl ⟨rfl, rfl⟩
    · rw [List.getElem?_set_ne (fun e' => e e'.symm)] at hj
      exact .inr ⟨e, hj⟩
  obtain ⟨⟨h1, h2⟩, hR, hx⟩ := H.q
  refine H.weak (B := (allP (l.set i A')).and (A.and R)) (fun _ => ⟨⟨fun j C hj => ?_, fun j m C D hjm hj hm k hC hD => ?_⟩, ⟨h1 i A hi, hR, fun k ha hr => hx k ⟨i, A, hi, ha⟩ hr⟩, ?_⟩) ?_
  · rcases at_ j C hj with ⟨_, e⟩ | ⟨_, hj⟩
    · rw [e]
      exact hq
    · exact h1 j C hj
  · rcases at_ j C hj with ⟨_, e⟩ | ⟨_, hj⟩
    · rw [e] at hC
      exact ho k hC
    · rcases at_ m D hm with ⟨_, e⟩ | ⟨_, hm⟩
      · rw [e] at hD
        exact ho k hD
      · exact h2 j m C D hjm hj hm k hC hD
  · rintro k ⟨j, C, hj, hk⟩ hr
    rcases at_ j C hj with ⟨_, e⟩ | ⟨hne, hj⟩
    · rw [e] at hk
      exact ho k hk
    · rcases hr with hr | hr
      · exact h2 j i C A hne hj hi k hk hr
      · exact hx k ⟨j, C, hj, hk⟩ hr
  · rintro k (⟨j, C, hj, hk⟩ | hk | hk)
    · rcases at_ j C hj with ⟨_, e⟩ | ⟨_, hj⟩
      · rw [e] at hk
        exact (ho k hk).elim
      · exact .inl ⟨j, C, hj, hk⟩
    · exact .inl ⟨i, A, hi, hk⟩
    · exact .inr hk
/-- An item in the result's block, and a truth value. -/
theorem look_ret {fn : Func} {W : World} {r : Nat} {i : It} {q : Value} {tmps : Array Value} {p t : Tmp} {Post : Ending → World → Prop} (hf : fn.results = #[.cell p 34, .tmp t]) (hb : W.heap[r]? = some (.cells (itC i) 34 (0, 0))) (h4 : tmps.getD p undef = .pointer (some ⟨r, 0, none⟩)) (h5 : tmps.getD t undef = q)
    (h : Post (.returned (.tuple #[.agg (itC i), q])) W) : bodyPost Tryz.prog fn Post .ret { tmps := tmps, defers := [] } W := by
  have hl := run_loadVar_row (P := Tryz.prog) W r _ 34 _ _ _ hb Tryz.underlying34 rfl (item_size i)
  have hr : (results fn tmps).run Tryz.prog W = .ok (.tuple #[.agg (itC i), q]) W := by
    rw [results_cell_tmp hf, h4, h5]
    simp only [asAddr, Sem.run_pure, Result.andThen_ok, hl]
  exact bodyPost_ret hr rfl h
section
variable {L : Libs Sl Ls Jd Tb} {F : Nat → Prop} {w0 w : World} {b sd n : Nat} {st : Hs} {x : Sx} {R : Part}
def LookX (L : Libs Sl Ls Jd Tb) (F : Nat → Prop) (w0 : World) (b sd n : Nat) (R : Part) (st : Hs) (s : ByteArray) (en : En) (E : List Eb) (e : Ending) (w' : World) : Prop :=
  (livB s en E = none ∧ e = .returned (.tuple #[.agg (itC zeroIt), .bool false]) ∧ After L F w0 w' b sd n R (lookH st s en) (lookB s en E)) ∨
  ∃ y a c x', livB s en E = some y ∧ e = .returned (.tuple #[.agg (itC (itOf y.iv a c)), .bool true]) ∧ LawF F w0 w' ((shP L b sd (lookH st s en) x').and ((valP w0.heap.size a c y.iv.val).and R)) ∧ Fit n (lookH st s en) x'
theorem val_base {n0 n1 : Nat} {a : Option Addr} {c : Nat} {l : List UInt8} {A : Part} (H : LawF F w0 w ((valP n0 a c l).and A)) (hn : n1 ≤ n0) : LawF F w0 w ((valP n1 a c l).and A) := H.weak1 (fun h => ValAt.base h hn) fun _ hk => hk
set_option maxRecDepth 100000 in
set_option maxHeartbeats 4000000 in
theorem look_in (H : LawF F w0 w ((shP L b sd st x).and R)) (f : Fit n st x) (hn : n ≤ 900) (s : ByteArray) (hs : s.size ≤ 300) (en : En) (hen : en.ok) :
    Calls Tryz.prog 25 #[.pointer (some ⟨b, 0, none⟩), .string s, .agg (enC en)] w (LookX L F w0 b sd n R st s en x.E) := by
  have H0 := ((H.box (.cells (enC en) 36)).box (.cells (itC zeroIt) 34)).rin.rot.rin
  rw [World.size_alloc] at H0
  clear H
  cases hl : livB s en x.E with
  | none =>
    have HL := hide hl
    clear hl
    go_enter Tryz.func25, Tryz.ntmps25
    go_wp2_with (first
      | (refine wpList_load_row rfl 36 _ rfl w.heap.size rfl _ (enC en) _ _ H0.rot.q.1 Tryz.underlying36 rfl (env_size _) ?_)
      | (go_at_call 48; refine (living_in H0 f hn s hs en hen).mono ?_; rw [HL.out]; rintro e w3 ⟨he, x3, H3, f3, hE3⟩; have he2 : e = .returned (.pointer none) := he; subst he2; clear he; replace H3 := H3.rin.rot)
      | (refine wpList_store_row rfl 34 _ _ rfl (w.heap.size + 1) (itC zeroIt) rfl rfl _ (itC zeroIt) H3.q.1 (item_size _) rfl (item_one _) ?_; have H4 := H3.setRow (itC zeroIt)))
    refine look_ret rfl H4.q.1 rfl rfl (.inl ⟨HL.out, rfl, x3, ?_, f3, hE3⟩)
    exact H4.right.unbox
  | some y =>
    have HL := hide hl
    have hm : lookB s en x.E = x.E ∧ y ∈ x.E := by
      unfold livB at hl
      unfold lookB
      cases hf : findB s x.E with
      | none =>
        rw [hf] at hl
        cases hl
      | some z =>
        rw [hf] at hl
        dsimp only at hl ⊢
        by_cases hv : liveI z.iv en = true
        · rw [if_pos hv] at hl
          rw [if_pos hv]
          cases hl
          exact ⟨rfl, (findB_some hf).1⟩
        · rw [if_neg hv] at hl
          cases hl
    have hl3 := (f.ivOk hm.2).val
    have HM := hide hm
    clear hl hm
    go_enter Tryz.func25, Tryz.ntmps25
    go_wp2_with (first
      | (refine wpList_load_row rfl 36 _ rfl w.heap.size rfl _ (enC en) _ _ H0.rot.q.1 Tryz.underlying36 rfl (env_size _) ?_)
      | (go_at_call 48; refine (living_in H0 f hn s hs en hen).mono ?_; rw [HL.out]; rintro e w3 ⟨he, x3, H3, f3, hE3⟩; have he2 : e = .returned (.pointer (some ⟨y.blk, 0, none⟩)) := he; subst he2; clear he; have hy3 : y ∈ x3.E := (by rw [hE3, HM.out.1]; exact HM.out.2); have r3 := (ent_cells (H3.entAt hy3)).1; have b3 := (H3.valAt hy3).bs)
      | (refine wpList_load_mid rfl 34 _ rfl y.blk 0 rfl (itC y.it).toList _ r3 Tryz.underlying34 rfl (by rw [item_size y.it, Array.length_toList]) ?_)
      | (go_at_call 53; refine (own_any y.iv (Nat.le_trans hl3 (by decide)) b3).mono ?_; rintro e w4 ⟨a4, c4, rfl, hv, hg⟩; have H4 := ((hv.new H3 hg).rot.rin.unbox.rin).rot; have hsz := H3.gr.size; clear hv hg)
      | (refine wpList_store_row rfl 34 _ _ rfl (w.heap.size + 1) (itC (itOf y.iv a4 c4)) rfl rfl _ (itC zeroIt) H4.q.1 (item_size _) rfl (item_one _) ?_; have H5 := H4.setRow (itC (itOf y.iv a4 c4))))
    refine look_ret rfl H5.q.1 rfl rfl (.inr ⟨y, a4, c4, x3, HL.out, rfl, ?_, f3⟩)
    exact (val_base H5.right.rot hsz).rot
set_option maxHeartbeats 2000000 in
theorem use_in (H : LawF F w0 w ((shP L b sd st x).and R)) (f : Fit n st x) (hn : n ≤ 900) (s : ByteArray) (hs : s.size ≤ 300) :
    Calls Tryz.prog 21 #[.pointer (some ⟨b, 0, none⟩), .string s] w fun e w' => (∃ v, e = .returned v) ∧ After L F w0 w' b sd n R (useH sd st s) x.E := by
  have hsm : s.size ≤ maxLen := Nat.le_trans hs (by decide)
  have hlR := Nat.le_of_lt (f.lenR hn)
  obtain ⟨-, -, -, c3, -⟩ := H.headC
  go_enter Tryz.func21, Tryz.ntmps21
  go_wp2_with (first
    | (go_at_call 46; refine (L.jd.touch H.judge s hs).mono ?_; rintro e w1 ⟨⟨v, rfl⟩, hJ, hg⟩; have H1 := H.toJudge hJ hg; clear hJ hg; obtain ⟨-, -, c2, -, -⟩ := H1.headC)
    | (go_at_call 47; refine (L.ls.hit H1.list hlR s hsm).mono ?_; rintro e w2 ⟨rfl, own2, hL, hg, hgr⟩; have H2 := H1.toList hL hg hgr; clear hL hg hgr))
  go_end0
  exact ⟨⟨_, rfl⟩, _, H2, ⟨f.small, f.tab, f.ents, f.blks, goodH_use f.good sd s⟩, rfl⟩
set_option maxHeartbeats 2000000 in
theorem used_in (H : LawF F w0 w ((shP L b sd st x).and R)) (f : Fit n st x) (hn : n ≤ 900) :
    Calls Tryz.prog 15 #[.pointer (some ⟨b, 0, none⟩)] w fun e w' => e = .returned (.int .i64 (usedS st.slab)) ∧ w.grownBy w' none := by
  have hsS := f.smallS hn
  obtain ⟨-, c1, -⟩ := H.headC
  go_enter Tryz.func15, Tryz.ntmps15
  go_wp2_with (go_at_call 43; refine (L.sl.used H.slab hsS).mono ?_; rintro e w1 ⟨rfl, hS, hg⟩)
  go_ret
  exact ⟨rfl, hg⟩
set_option maxHeartbeats 2000000 in
theorem len_in (H : LawF F w0 w ((shP L b sd st x).and R)) (f : Fit n st x) (hn : n ≤ 900) :
    Calls Tryz.prog 17 #[.pointer (some ⟨b, 0, none⟩)] w fun e w' => e = .returned (.int .i64 st.ents.length) ∧ w.grownBy w' none := by
  have h5 := f.small5 hn
  have hl : (x.ts.l.length : Int) = (st.ents.length : Int) := by rw [f.tab, f.ents, List.length_map, List.length_map]
  have HL := hide hl
  obtain ⟨c0, -⟩ := H.headC
  clear hl
  go_enter Tryz.func17, Tryz.ntmps17
  go_wp2_with (go_at_call 45; refine (L.tb.len H.tabl h5).mono ?_; rintro e w1 ⟨he, hT, hg⟩; rw [HL.out] at he; subst he)
  go_ret
  exact ⟨rfl, hg⟩
set_option maxHeartbeats 2000000 in
theorem drops_in (H : LawF F w0 w ((shP L b sd st x).and R)) (f : Fit n st x) :
    Calls Tryz.prog 19 #[.pointer (some ⟨b, 0, none⟩)] w fun e w' => e = .returned x.vd ∧ LawF F w0 w' ((shP L b sd (quietH st) { x with vd := .slice none 0 0 }).and ((dropsP x.vd st.drops).and R)) ∧ Fit n (quietH st) { x with vd := .slice none 0 0 } := by
  have hf' : Fit n (quietH st) { x with vd := .slice none 0 0 } := ⟨f.small, f.tab, f.ents, f.blks, goodH_quiet f.good⟩
  obtain ⟨-, -, -, -, c4⟩ := H.headC
  have f4 := frozen_of_row w b 4 _ _ H.head
  obtain ⟨a, cap, hvd⟩ := own_shape H.dropsR
  have HV := hide hvd
  rw [hvd] at c4
  clear hvd
  have H1 : LawF F w0 (w.setCell ⟨b, 4, none⟩ (.slice none 0 0)) ((shP L b sd (quietH st) { x with vd := .slice none 0 0 }).and ((dropsP x.vd st.drops).and R)) := by
    have hq := H.headSet (.slice none 0 0)
    have Ha := H.turnIn (A := headP b x) (A' := headP b { x with vd := .slice none 0 0 }) 0 rfl hq.2 (fun k hk => by rw [World.size_setCell]; exact H.atLt (A := headP b x) 0 rfl k hk) hq.1 fun _ hk => .inl hk
    exact Ha.outIn (A := dropsP x.vd st.drops) (A' := dropsP (.slice none 0 0) []) 5 rfl (World.ownsRow_nil _ _ _ _) fun k hk => by cases hk
  go_enter Tryz.func19, Tryz.ntmps19
  go_wp2
  go_ret
  exact ⟨by rw [HV.out]; rfl, H1, hf'⟩
end
end Go.Proofs.YtckjjfkfapfdaaaGreat

namespace Go.Proofs.YtckjjfkfapfdaaaGreat
open Go.RowKit Go.Shelf
variable {Sl : World → Nat → (Nat → Prop) → Sb → Prop} {Ls : World → Nat → (Nat → Prop) → Sr → Prop} {Jd : World → Nat → List Nat → Nat → Js → Prop} {Tb : World → Nat → (Nat → Prop) → Ts → Prop}

/-- Cells of a block, some of them set. -/
def setL (cs : Array Value) (o : Nat) : List Value → Array Value
  | [] => cs
  | v :: vs => setL (cs.setIfInBounds o v) (o + 1) vs
theorem setL_heap {k : Nat} {t : TypeId} : ∀ (vs : List Value) (o : Nat) (W : World) (cs : Array Value), W.heap[k]? = some (.cells cs t (0, 0)) → (W.setCells k o vs).heap[k]? = some (.cells (setL cs o vs) t (0, 0))
  | [], _, _, _, h => h
  | v :: vs, o, W, cs, h => setL_heap vs (o + 1) (W.setCell ⟨k, o, none⟩ v) (cs.setIfInBounds o v) (heap_setCell_same W k o cs t v h)
theorem setL_grow {k : Nat} : ∀ (vs : List Value) (o : Nat) (W : World), Gr (fun j => j = k) W (W.setCells k o vs)
  | [], _, W => Gr.refl _ W
  | v :: vs, o, W => by
    have h1 : Gr (fun j => j = k) W (W.setCell ⟨k, o, none⟩ v) := ⟨rfl, rfl, rfl, by rw [World.size_setCell]; exact Nat.le_refl _, fun j _ hn => heap_setCell_other _ _ _ _ hn⟩
    exact h1.trans (setL_grow vs (o + 1) (W.setCell ⟨k, o, none⟩ v))
def swapB (y : Eb) (E : List Eb) : List Eb := E.map fun z => if z.blk = y.blk then y else z
theorem mem_swapB {y y0 z : Eb} {E : List Eb} (h0 : y0 ∈ E) (hb : y0.blk = y.blk) : z ∈ swapB y E ↔ z = y ∨ (z ∈ E ∧ z.blk ≠ y.blk) := by
  unfold swapB
  rw [List.mem_map]
  constructor
  · rintro ⟨u, hu, rfl⟩
    by_cases e : u.blk = y.blk
    · rw [if_pos e]
      exact .inl rfl
    · rw [if_neg e]
      exact .inr ⟨hu, e⟩
  · rintro (rfl | ⟨hz, hne⟩)
    · exact ⟨y0, h0, if_pos hb⟩
    · exact ⟨z, hz, if_neg hne⟩
theorem swapB_blk (y : Eb) (E : List Eb) : (swapB y E).map Eb.blk = E.map Eb.blk := by
  unfold swapB
  rw [List.map_map]
  refine List.map_congr_left fun z _ => ?_
  show (if z.blk = y.blk then y else z).blk = z.blk
  split
  · rename_i e
    exact e.symm
  · rfl
theorem swapB_kv {y y0 : Eb} {E : List Eb} (hn : (E.map Eb.blk).Nodup) (h0 : y0 ∈ E) (hb : y0.blk = y.blk) (hk : y0.iv.key = y.iv.key) : (swapB y E).map Eb.kv = E.map Eb.kv := by
  unfold swapB
  rw [List.map_map]
  refine List.map_congr_left fun z hz => ?_
  show (if z.blk = y.blk then y else z).kv = z.kv
  split
  · rename_i e
    have : z = y0 := blk_inj hn hz h0 (e.trans hb.symm)
    rw [this]
    unfold Eb.kv
    rw [hk, hb]
  · rfl
theorem swapB_ent {y y0 : Eb} {E : List Eb} (hr : RisingE (E.map Eb.ent)) (hn : (E.map Eb.blk).Nodup) (h0 : y0 ∈ E) (hb : y0.blk = y.blk) (hk : y0.iv.key = y.iv.key) : (swapB y E).map Eb.ent = putE y.ent (E.map Eb.ent) := by
  have hkv := swapB_kv hn h0 hb hk
  have hr' : RisingE ((swapB y E).map Eb.ent) := by
    have h1 := rising_of_ents hr
    rw [← hkv] at h1
    unfold Rising at h1
    unfold RisingE
    rw [List.pairwise_map] at h1 ⊢
    exact h1
  refine risingE_ext hr' (risingE_put hr) fun e => ?_
  rw [List.mem_map, mem_putE]
  have same : ∀ z ∈ E, z.blk = y.blk ↔ z.iv.key = y.iv.key := fun z hz => by
    constructor
    · intro e
      rw [blk_inj hn hz h0 (e.trans hb.symm), hk]
    · intro e
      have : z.ent = y0.ent := rising_key hr (List.mem_map.2 ⟨z, hz, rfl⟩) (List.mem_map.2 ⟨y0, h0, rfl⟩) (e.trans hk.symm)
      by_cases hzb : z = y0
      · rw [hzb, hb]
      · have hp : ∀ {l : List Eb}, RisingE (l.map Eb.ent) → ∀ u ∈ l, ∀ v ∈ l, u.iv.key = v.iv.key → u = v := by
          intro l hl
          induction l with
          | nil => intro u hu; cases hu
          | cons c l ih =>
            rw [List.map_cons] at hl
            have hl' := List.pairwise_cons.1 hl
            intro u hu v hv huv
            rcases List.mem_cons.1 hu with eu | hu
            · rcases List.mem_cons.1 hv with ev | hv
              · rw [eu, ev]
              · exact absurd (eu ▸ huv) (ltK_ne (hl'.1 v.ent (List.mem_map.2 ⟨v, hv, rfl⟩)))
            · rcases List.mem_cons.1 hv with ev | hv
              · exact absurd (ev ▸ huv.symm) (ltK_ne (hl'.1 u.ent (List.mem_map.2 ⟨u, hu, rfl⟩)))
              · exact ih hl'.2 u hu v hv huv
        exact absurd (hp hr z hz y0 h0 (e.trans hk.symm)) hzb
  constructor
  · rintro ⟨z, hz, rfl⟩
    rcases (mem_swapB h0 hb).1 hz with rfl | ⟨hz, hne⟩
    · exact .inl rfl
    · exact .inr ⟨List.mem_map.2 ⟨z, hz, rfl⟩, fun e => hne ((same z hz).2 e)⟩
  · rintro (rfl | ⟨he, hne⟩)
    · exact ⟨y, (mem_swapB h0 hb).2 (.inl rfl), rfl⟩
    · obtain ⟨z, hz, rfl⟩ := List.mem_map.1 he
      exact ⟨z, (mem_swapB h0 hb).2 (.inr ⟨hz, fun e => hne ((same z hz).1 e)⟩), rfl⟩
section
variable {L : Libs Sl Ls Jd Tb} {F : Nat → Prop} {w0 w : World} {b sd n : Nat} {st : Hs} {x : Sx} {R : Part}
theorem ent_there {W : World} {y : Eb} (h : W.heap[y.blk]? = some (.cells y.cells 104 (0, 0))) : W.there y.blk 0 10 := fun j hj => by
  refine ⟨?_, ?_⟩
  · unfold World.cell?
    rw [h]
    show (y.cells[0 + j]?).isSome = true
    rw [Nat.zero_add]
    have : j < y.cells.size := Nat.lt_of_lt_of_le hj (show 10 ≤ y.cells.size by unfold Eb.cells; rw [Array.size_append]; exact Nat.le_add_right _ _)
    rw [Array.getElem?_eq_getElem this]
    rfl
  · exact frozen_of_row _ _ _ _ _ h
theorem setL_ent (y : Eb) (i : Iv) (a' : Option Addr) (c' : Nat) : setL y.cells 0 (itC (itOf i a' c')).toList = (⟨y.blk, i, y.ck, a', c'⟩ : Eb).cells := by
  have h1 : y.cells = [.string y.iv.key, .slice y.a y.iv.val.length y.c, .int .u32 y.iv.fl, .int .i64 y.iv.exp, .int .u64 y.iv.cas, .int .i64 y.iv.sec, .int .u64 y.iv.seq, .bool y.iv.st, .bool y.iv.won, .bool y.iv.seen, .int .i64 y.ck.1, .int .i64 y.ck.2].toArray := rfl
  have h2 : (itC (itOf i a' c')).toList = [.string i.key, .slice a' i.val.length c', .int .u32 i.fl, .int .i64 i.exp, .int .u64 i.cas, .int .i64 i.sec, .int .u64 i.seq, .bool i.st, .bool i.won, .bool i.seen] := rfl
  rw [h1, h2]
  simp [setL, Eb.cells, Eb.it, itC, itOf]
theorem LawF.updE {i : Iv} {a' : Option Addr} {c' n0 : Nat} {y : Eb} (H : LawF F w0 w ((shP L b sd st x).and ((valP n0 a' c' i.val).and R))) (hy : y ∈ x.E) (es : List Ent) :
    LawF F w0 (w.setCells y.blk 0 (itC (itOf i a' c')).toList) ((shP L b sd { st with ents := es } { x with E := swapB ⟨y.blk, i, y.ck, a', c'⟩ x.E }).and R) := by
  have hg := setL_grow (k := y.blk) (itC (itOf i a' c')).toList 0 w
  have hn := setL_heap (itC (itOf i a' c')).toList 0 w y.cells (H.entAt hy)
  rw [setL_ent] at hn
  have H1 := H.turnIn (A := entsP x.E) (A' := entsP (swapB ⟨y.blk, i, y.ck, a', c'⟩ x.E)) 6 rfl (fun z hz => by
    rcases (mem_swapB (y := ⟨y.blk, i, y.ck, a', c'⟩) hy rfl).1 hz with rfl | ⟨hz, hne⟩
    · exact hn
    · exact (hg.block z.blk (H.atLt (A := entsP x.E) 6 rfl _ ⟨z, hz, rfl⟩) hne).trans (H.entAt hz)) (fun k ⟨z, hz, e⟩ => by
    rcases (mem_swapB (y := ⟨y.blk, i, y.ck, a', c'⟩) hy rfl).1 hz with rfl | ⟨hz, hne⟩
    · exact Nat.lt_of_lt_of_le (H.atLt (A := entsP x.E) 6 rfl _ ⟨y, hy, e⟩) hg.size
    · exact Nat.lt_of_lt_of_le (H.atLt (A := entsP x.E) 6 rfl _ ⟨z, hz, e⟩) hg.size) (gr_sub hg fun k hk => ⟨y, hy, hk.symm⟩) fun k ⟨z, hz, e⟩ => (by
    rcases (mem_swapB (y := ⟨y.blk, i, y.ck, a', c'⟩) hy rfl).1 hz with rfl | ⟨hz, hne⟩
    · exact .inl ⟨y, hy, e⟩
    · exact .inl ⟨z, hz, e⟩)
  exact H1.mergeIn (A := valsP x.E) (A' := valsP (swapB ⟨y.blk, i, y.ck, a', c'⟩ x.E)) 7 rfl (fun h1 h2 z hz => by
    rcases (mem_swapB (y := ⟨y.blk, i, y.ck, a', c'⟩) hy rfl).1 hz with rfl | ⟨hz, _⟩
    · exact ValAt.base h2 (Nat.zero_le _)
    · exact h1 z hz) fun k ⟨z, hz, e⟩ => (by
    rcases (mem_swapB (y := ⟨y.blk, i, y.ck, a', c'⟩) hy rfl).1 hz with rfl | ⟨hz, _⟩
    · exact .inr e
    · exact .inl ⟨z, hz, e⟩)
theorem LawF.keyC {k : Nat} {i : Iv} {a : Option Addr} {c : Nat} {t : TypeId} {A : Part} (H : LawF F w0 w (A.and ((boxP k (.cells (itC (itOf i a c)) t)).and R))) : w.cell? ⟨k, 0, none⟩ = some (.string i.key) ∧ w.cell? ⟨k, 1, none⟩ = some (.slice a i.val.length c) := by
  have h : w.heap[k]? = some (.cells (itC (itOf i a c)) t (0, 0)) := H.rot.q.1
  exact ⟨(it_cells h).1, (it_cells h).2.1⟩
theorem upd_find (f : Fit n st x) (i : Iv) : updErr st i = (match findB i.key x.E with | none => 6 | some y => if i.val.length = y.iv.val.length then 0 else 1) ∧ updH st i = (match findB i.key x.E with | none => st | some y => if i.val.length = y.iv.val.length then { st with ents := putE (i, y.ck) st.ents } else st) := by
  unfold updErr updH
  rw [f.find]
  cases findB i.key x.E with
  | none => exact ⟨rfl, rfl⟩
  | some y => exact ⟨rfl, rfl⟩
set_option maxRecDepth 100000 in
set_option maxHeartbeats 8000000 in
theorem update_in (H : LawF F w0 w ((shP L b sd st x).and R)) (f : Fit n st x) (hn : n ≤ 900) (i : Iv) (hi : i.ok) (a : Option Addr) (c : Nat) (hrd : ReadAt w0 F a c i.val) :
    Calls Tryz.prog 26 #[.pointer (some ⟨b, 0, none⟩), .agg (itC (itOf i a c))] w fun e w' => e = .returned (.int .i64 (updErr st i)) ∧ ∃ E, After L F w0 w' b sd n R (updH st i) E := by
  have mixed : Tryz.prog.follows .mixedOrders = true := by kernel_rfl
  have hk3 := hi.key
  have hv3 := hi.val
  have h5 := f.small5 hn
  obtain ⟨g1, g2, -⟩ := f.got i.key
  obtain ⟨u1, u2⟩ := upd_find f i
  have hgd := goodH_upd f.good hi
  have H0 := (H.box (.cells (itC (itOf i a c)) 34)).rot.drew
  obtain ⟨c0, -⟩ := H0.headC
  have c1 := H0.keyC.1
  clear H
  cases hf : findB i.key x.E with
  | none =>
    rw [hf] at g1 g2 u1 u2
    have K := hide (show ptrO (getL i.key x.ts.l) = .pointer none ∧ hasT x.ts i.key = false from ⟨g1, g2⟩)
    rw [u1, u2]
    clear g1 g2 u1 u2 hgd
    go_enter Tryz.func26, Tryz.ntmps26
    go_upto_region 1 with fail
    go_region_held (fun w' => w'.cell? ⟨b, 0, none⟩ = some (.pointer (some ⟨x.tb, 0, none⟩)) ∧ w'.cell? ⟨w.heap.size, 0, none⟩ = some (.string i.key)) (first | exact ⟨d0, d1⟩ | exact ⟨c0, c1⟩) ((go_at_call 54; refine (L.tb.get H0.tabl h5 i.key hk3).mono ?_; rintro e w1 ⟨he, own1, hT, hg, hgr⟩; rw [K.out.1, K.out.2] at he; subst he; have H1 := H0.toTab hT hg hgr; clear hT hg hgr; obtain ⟨d0, -⟩ := H1.headC; have d1 := H1.keyC.1))
    all_goals
      go_wp2
      go_ret
      exact ⟨rfl, x.E, _, H1.unbox, ⟨smallT_step f.small, f.tab, f.ents, f.blks, f.good⟩, rfl⟩
  | some y =>
    rw [hf] at g1 g2 u1 u2
    dsimp only at u1 u2
    have K := hide (show ptrO (getL i.key x.ts.l) = .pointer (some ⟨y.blk, 0, none⟩) ∧ hasT x.ts i.key = true from ⟨g1, g2⟩)
    have hy := (findB_some hf).1
    have hkey := (findB_some hf).2
    have hyv := (f.ivOk hy).val
    obtain ⟨p, hp⟩ : ∃ p, i.val.length = p := ⟨_, rfl⟩
    obtain ⟨q, hq⟩ : ∃ q, y.iv.val.length = q := ⟨_, rfl⟩
    by_cases hl : i.val.length = y.iv.val.length
    · rw [if_pos hl] at u1 u2
      have hpq : ((p : Int) != (q : Int)) = false := by rw [← hp, ← hq, hl]; simp
      have hgd2 := hide (show GoodH n { st with ents := putE (i, y.ck) st.ents } from by rw [← u2]; exact hgd)
      rw [u1, u2]
      have HK := hide hkey
      have HP := hide hp
      have HQ := hide hq
      clear g1 g2 u1 u2 hgd hl hkey
      go_enter Tryz.func26, Tryz.ntmps26
      go_upto_region 1 with fail
      go_region_held (fun w' => w'.cell? ⟨b, 0, none⟩ = some (.pointer (some ⟨x.tb, 0, none⟩)) ∧ w'.cell? ⟨w.heap.size, 0, none⟩ = some (.string i.key)) (first | exact ⟨d0, d1⟩ | exact ⟨c0, c1⟩) ((go_at_call 54; refine (L.tb.get H0.tabl h5 i.key hk3).mono ?_; rintro e w1 ⟨he, own1, hT, hg, hgr⟩; rw [K.out.1, K.out.2] at he; subst he; have H1 := H0.toTab hT hg hgr; clear hT hg hgr; obtain ⟨d0, -⟩ := H1.headC; have d1 := H1.keyC.1))
      all_goals
        go_upto_region 4 with fail
        have e1 := H1.keyC.2
        have e2 := (ent_cells (H1.entAt hy)).2.2.2
        rw [HP.out] at e1
        rw [HQ.out] at e2
        go_quiet (fail)
        have H2 := H1.drewN nq
        clear H1 e1 e2
        go_wp2_with (first
          | (refine wpList_load_row rfl 34 _ rfl w.heap.size rfl _ (itC (itOf i a c)) _ _ H2.rot.q.1 Tryz.underlying34 rfl (item_size _) ?_)
          | (go_at_call 53; refine (own_any i (Nat.le_trans hv3 (by decide)) (hrd.on H2.gr)).mono ?_; rintro e w4 ⟨a4, c4, rfl, hv, hg⟩; have H4 := (hv.new H2 hg).rot; have ht := ent_there (H4.entAt hy); have H5 := H4.updE hy (putE (i, y.ck) st.ents); clear hv hg)
          | (refine wpList_store_mid rfl 34 _ _ rfl y.blk 0 (itC (itOf i a4 c4)) rfl rfl ht (item_size _) (item_one _) ?_))
        go_ret
        exact ⟨rfl, _, _, H5.unbox, ⟨smallT_step f.small, by show x.ts.l = _; rw [f.tab]; exact (swapB_kv (y := ⟨y.blk, i, y.ck, a4, c4⟩) f.blks hy rfl HK.out).symm, by show putE (i, y.ck) st.ents = _; rw [f.ents]; exact (swapB_ent (y := ⟨y.blk, i, y.ck, a4, c4⟩) (by rw [← f.ents]; exact f.good.rise) f.blks hy rfl HK.out).symm, by rw [swapB_blk]; exact f.blks, hgd2.out⟩, rfl⟩
    · rw [if_neg hl] at u1 u2
      have hpq : ((p : Int) != (q : Int)) = true := by
        have : (p : Int) ≠ (q : Int) := fun e => hl (by omega)
        simpa using this
      rw [u1, u2]
      have HP := hide hp
      have HQ := hide hq
      clear g1 g2 u1 u2 hgd hl hkey
      go_enter Tryz.func26, Tryz.ntmps26
      go_upto_region 1 with fail
      go_region_held (fun w' => w'.cell? ⟨b, 0, none⟩ = some (.pointer (some ⟨x.tb, 0, none⟩)) ∧ w'.cell? ⟨w.heap.size, 0, none⟩ = some (.string i.key)) (first | exact ⟨d0, d1⟩ | exact ⟨c0, c1⟩) ((go_at_call 54; refine (L.tb.get H0.tabl h5 i.key hk3).mono ?_; rintro e w1 ⟨he, own1, hT, hg, hgr⟩; rw [K.out.1, K.out.2] at he; subst he; have H1 := H0.toTab hT hg hgr; clear hT hg hgr; obtain ⟨d0, -⟩ := H1.headC; have d1 := H1.keyC.1))
      all_goals
        go_upto_region 4 with fail
        have e1 := H1.keyC.2
        have e2 := (ent_cells (H1.entAt hy)).2.2.2
        rw [HP.out] at e1
        rw [HQ.out] at e2
        go_quiet (fail)
        have H2 := H1.drewN nq
        go_wp2
        go_ret
        exact ⟨rfl, x.E, _, H2.unbox, ⟨smallT_step f.small, f.tab, f.ents, f.blks, f.good⟩, rfl⟩
end
end Go.Proofs.YtckjjfkfapfdaaaGreat
