/- put of package shard. Conditions: the contracts of the packages beneath it; at most 900 stores, keys of at most 300 bytes, values of at most 3000. Store, Look, Use, Used and Len of package shard. Conditions: the contracts of the packages beneath it; at most 900 stores, keys of at most 300 bytes, values of at most 3000. -/
import Derived.Test.YtkfeafmpaodagaaGreatDoorG27Joined
import Derived.Test.YtkfeafmpaodagaaGreatDoorShardRoom
namespace Go.Proofs.YtkfeafmpaodagaaGreatDoor
open Go.RowKit Go.Shelf
variable {Sl : World → Nat → (Nat → Prop) → Sb → Prop} {Ls : World → Nat → (Nat → Prop) → Sr → Prop} {Jd : World → Nat → List Nat → Nat → Js → Prop} {Tb : World → Nat → (Nat → Prop) → Ts → Prop}

def ordH (st : Hs) (i : Iv) (had : Option Ent) : Sr := match had with | none => addR st.ord i.key | some _ => st.ord
/-- Ahead of the taking. -/
def midH (st : Hs) (i : Iv) (had : Option Ent) : Hs := ⟨st.ents, freedH st had, ordH st i had, st.jd, st.drops⟩
/-- Behind it. -/
def tookH (st : Hs) (i : Iv) (had : Option Ent) : Hs := ⟨st.ents, takeS (freedH st had) (sizeI i), ordH st i had, st.jd, st.drops⟩
theorem box_key2 {W : World} {k : Nat} {i : Iv} {a : Option Addr} {c : Nat} {t : TypeId} (h : W.heap[k]? = some (.cells (itC (itOf i a c)) t (0, 0))) : W.cell? ⟨k, 0, none⟩ = some (.string i.key) := (it_cells h).1
section
variable {L : Libs Sl Ls Jd Tb} {F : Nat → Prop} {w0 w : World} {b sd n : Nat} {st : Hs} {x : Sx} {R : Part}
/-- The shard, and the item in its box. -/
def PutA (L : Libs Sl Ls Jd Tb) (F : Nat → Prop) (w0 : World) (b sd : Nat) (R : Part) (st : Hs) (E : List Eb) (ts : Ts) (k : Nat) (i : It) (wx : World) : Prop := ∃ x, LawF F w0 wx ((shP L b sd st x).and ((boxP k (.cells (itC i) 75)).and R)) ∧ x.E = E ∧ x.ts = ts
/-- The chunk in its box besides. -/
def PutC (L : Libs Sl Ls Jd Tb) (F : Nat → Prop) (w0 : World) (b sd : Nat) (R : Part) (st : Hs) (E : List Eb) (ts : Ts) (k : Nat) (i : It) (ck : Ck) (kc : Nat) (wx : World) : Prop := ∃ x, LawF F w0 wx ((shP L b sd st x).and ((boxP kc (.cells #[.int .i64 ck.1, .int .i64 ck.2] 92)).and ((boxP k (.cells (itC i) 75)).and R))) ∧ x.E = E ∧ x.ts = ts
theorem LawF.boxW {W : World} {A : Part} (H : LawF F w0 W.drew A) (o : Obj) : LawF F w0 (W.drew.alloc o) ((boxP W.heap.size o).and A) := H.box o
theorem put_cells {W : World} {A : Part} {i : Iv} {a : Option Addr} {c k : Nat} (H : LawF F w0 W ((shP L b sd st x).and ((boxP k (.cells (itC (itOf i a c)) 75)).and A))) : W.cell? ⟨b, 1, none⟩ = some (.pointer (some ⟨x.sb, 0, none⟩)) ∧ W.cell? ⟨k, 0, none⟩ = some (.string i.key) ∧ W.cell? ⟨k, 1, none⟩ = some (.slice a i.val.length c) ∧ W.cell? ⟨k, 2, none⟩ = some (.int .u32 i.fl) ∧ W.cell? ⟨k, 3, none⟩ = some (.int .i64 i.exp) ∧ W.cell? ⟨k, 4, none⟩ = some (.int .u64 i.cas) ∧ W.cell? ⟨k, 5, none⟩ = some (.int .i64 i.sec) ∧ W.cell? ⟨k, 6, none⟩ = some (.int .u64 i.seq) ∧ W.cell? ⟨k, 7, none⟩ = some (.bool i.st) ∧ W.cell? ⟨k, 8, none⟩ = some (.bool i.won) ∧ W.cell? ⟨k, 9, none⟩ = some (.bool i.seen) := by
  have h := it_cells (show W.heap[k]? = some (.cells (itC (itOf i a c)) 75 (0, 0)) from H.rot.q.1)
  exact ⟨H.headC.2.1, h⟩
theorem put_cells2 {W : World} {A B : Part} {i : Iv} {a : Option Addr} {c k : Nat} (H : LawF F w0 W ((shP L b sd st x).and (B.and ((boxP k (.cells (itC (itOf i a c)) 75)).and A)))) : W.cell? ⟨b, 1, none⟩ = some (.pointer (some ⟨x.sb, 0, none⟩)) ∧ W.cell? ⟨k, 0, none⟩ = some (.string i.key) ∧ W.cell? ⟨k, 1, none⟩ = some (.slice a i.val.length c) ∧ W.cell? ⟨k, 2, none⟩ = some (.int .u32 i.fl) ∧ W.cell? ⟨k, 3, none⟩ = some (.int .i64 i.exp) ∧ W.cell? ⟨k, 4, none⟩ = some (.int .u64 i.cas) ∧ W.cell? ⟨k, 5, none⟩ = some (.int .i64 i.sec) ∧ W.cell? ⟨k, 6, none⟩ = some (.int .u64 i.seq) ∧ W.cell? ⟨k, 7, none⟩ = some (.bool i.st) ∧ W.cell? ⟨k, 8, none⟩ = some (.bool i.won) ∧ W.cell? ⟨k, 9, none⟩ = some (.bool i.seen) := put_cells H.unbox
theorem put_set {W : World} {A : Part} {u v u' v' : Value} {kc : Nat} (H : LawF F w0 W ((shP L b sd st x).and ((boxP kc (.cells #[u, v] 92)).and A))) : LawF F w0 ((W.setCell ⟨kc, 0, none⟩ u').setCell ⟨kc, 1, none⟩ v') ((shP L b sd st x).and ((boxP kc (.cells #[u', v'] 92)).and A)) := ((H.rot.setAt 0 u').setAt 1 v').rot
theorem put_get {W : World} {A : Part} {u v : Value} {kc : Nat} (H : LawF F w0 W ((shP L b sd st x).and ((boxP kc (.cells #[u, v] 92)).and A))) : W.cell? ⟨kc, 0, none⟩ = some u ∧ W.cell? ⟨kc, 1, none⟩ = some v ∧ W.frozen? ⟨kc, 0, none⟩ = false ∧ W.frozen? ⟨kc, 1, none⟩ = false := by
  have h : W.heap[kc]? = some (.cells #[u, v] 92 (0, 0)) := H.rot.q.1
  exact ⟨by simp [World.cell?, h], by simp [World.cell?, h], frozen_of_row _ _ _ _ _ h, frozen_of_row _ _ _ _ _ h⟩
theorem put5 {W : World} {A : Part} {i : Iv} {a : Option Addr} {c k kc : Nat} {ck : Ck} (H : LawF F w0 W ((shP L b sd st x).and ((boxP kc (.cells #[.int .i64 ck.1, .int .i64 ck.2] 92)).and ((boxP k (.cells (itC (itOf i a c)) 75)).and A)))) : W.cell? ⟨b, 0, none⟩ = some (.pointer (some ⟨x.tb, 0, none⟩)) ∧ (W.cell? ⟨kc, 0, none⟩ = some (.int .i64 ck.1) ∧ W.cell? ⟨kc, 1, none⟩ = some (.int .i64 ck.2)) ∧ W.cell? ⟨k, 0, none⟩ = some (.string i.key) ∧ W.cell? ⟨k, 1, none⟩ = some (.slice a i.val.length c) ∧ W.cell? ⟨k, 2, none⟩ = some (.int .u32 i.fl) ∧ W.cell? ⟨k, 3, none⟩ = some (.int .i64 i.exp) ∧ W.cell? ⟨k, 4, none⟩ = some (.int .u64 i.cas) ∧ W.cell? ⟨k, 5, none⟩ = some (.int .i64 i.sec) ∧ W.cell? ⟨k, 6, none⟩ = some (.int .u64 i.seq) ∧ W.cell? ⟨k, 7, none⟩ = some (.bool i.st) ∧ W.cell? ⟨k, 8, none⟩ = some (.bool i.won) ∧ W.cell? ⟨k, 9, none⟩ = some (.bool i.seen) := by
  have h1 := put_get H
  exact ⟨H.headC.1, ⟨h1.1, h1.2.1⟩, (put_cells2 H).2⟩
theorem Eb.lits (y : Eb) : y.cells = #[.string y.iv.key, .slice y.a y.iv.val.length y.c, .int .u32 y.iv.fl, .int .i64 y.iv.exp, .int .u64 y.iv.cas, .int .i64 y.iv.sec, .int .u64 y.iv.seq, .bool y.iv.st, .bool y.iv.won, .bool y.iv.seen, .int .i64 y.ck.1, .int .i64 y.ck.2] := rfl
theorem put_end {W : World} {x' : Sx} {A B : Part} {i : Iv} {hE : Option Ent} {ck : Ck} {blk n0 c' : Nat} {a' : Option Addr}
    (H : LawF F w0 W ((shP L b sd (tookH st i hE) x').and ((boxP blk (.cells #[.string i.key, .slice a' i.val.length c', .int .u32 i.fl, .int .i64 i.exp, .int .u64 i.cas, .int .i64 i.sec, .int .u64 i.seq, .bool i.st, .bool i.won, .bool i.seen, .int .i64 ck.1, .int .i64 ck.2] 130)).and ((valP n0 a' c' i.val).and (A.and (B.and R))))))
    (hE1 : x'.E = x.E) (hts : x'.ts = putT x.ts i.key blk) (f : Fit n st x) (gd : GoodH (n + 1) (putH st i hE)) (hck : takeCk (freedH st hE) (sizeI i) = ck) : ∃ E, After L F w0 W b sd (n + 1) R (putH st i hE) E := by
  have hne : ∀ z ∈ x'.E, z.blk ≠ blk := fun z hz e => H.q.2.2 z.blk ⟨6, entsP x'.E, rfl, z, hz, rfl⟩ (.inl e)
  have H1 := LawF.addE (y := ⟨blk, i, ck, a', c'⟩) H (putB ⟨blk, i, ck, a', c'⟩ x'.E) (fun z hz => (mem_putB hz).imp id And.left) (putE (i, ck) st.ents)
  have hst : putH st i hE = { tookH st i hE with ents := putE (i, ck) st.ents } := by rw [← hck]; rfl
  rw [hst] at gd
  rw [hst]
  refine ⟨_, _, H1.unbox.unbox, ⟨?_, ?_, ?_, ?_, gd⟩, rfl⟩
  · show SmallT x'.ts 901
    rw [hts]
    refine smallT_putN f.small _ _ ?_
    have hr : RisingE (x'.E.map Eb.ent) := by rw [hE1, ← f.ents]; exact f.good.rise
    have h9 : (putE (i, ck) st.ents).length ≤ 901 := gd.nine.1
    have e1 : putE (i, ck) st.ents = (putB ⟨blk, i, ck, a', c'⟩ x'.E).map Eb.ent := by rw [putB_ent, hE1, ← f.ents]; rfl
    have e2 : putL i.key (blk : Int) x.ts.l = (putB ⟨blk, i, ck, a', c'⟩ x'.E).map Eb.kv := by
      rw [f.tab, ← hE1]
      exact (putB_kv ⟨blk, i, ck, a', c'⟩ hr).symm
    rw [e1, List.length_map] at h9
    rw [e2, List.length_map]
    exact h9
  · show x'.ts.l = _
    have hr : RisingE (x'.E.map Eb.ent) := by rw [hE1, ← f.ents]; exact f.good.rise
    rw [hts, putT_l, f.tab, ← hE1]
    exact (putB_kv ⟨blk, i, ck, a', c'⟩ hr).symm
  · show putE (i, ck) st.ents = _
    rw [putB_ent, hE1, ← f.ents]
    rfl
  · exact putB_blks (by rw [hE1]; exact f.blks) hne
set_option maxRecDepth 100000 in
set_option maxHeartbeats 8000000 in
theorem put_none (H : LawF F w0 w ((shP L b sd st x).and R)) (f : Fit n st x) (hn : n ≤ 4398046511104) (hl : n ≤ 900 ∨ st.slab.bud ≤ 57600) (i : Iv) (hi : i.ok) (hs2 : sizeI i ≤ 2048) (a : Option Addr) (c : Nat) (hrd : ReadAt w0 F a c i.val) (hh : findB i.key x.E = none) (hfit : fitsS st.slab (sizeI i) (lessH none) = true) :
    Calls Tryz.prog 165 #[.pointer (some ⟨b, 0, none⟩), .agg (itC (itOf i a c)), .pointer none] w fun e w' => (∃ v, e = .returned v) ∧ ∃ E, After L F w0 w' b sd (n + 1) R (putH st i none) E := by
  have mixed : Tryz.prog.follows .mixedOrders = true := by kernel_rfl
  have hk3 := hi.key
  have hv3 := hi.val
  have hv9 : i.val.length ≤ 100000 := by unfold sizeI at hs2; omega
  have hkm : i.key.size ≤ maxLen := Nat.le_trans hk3 (by decide)
  have HZ := hide (fun W => L.it.size (itOf i a c) W (Nat.le_trans hk3 (by decide)) (Nat.le_trans hv3 (by decide)))
  rw [show (50 + ((itOf i a c).key.size : Nat) + ((itOf i a c).vl : Nat) : Int) = sizeI i from rfl] at HZ
  have hsz : I64 (sizeI i) := by
    unfold sizeI
    constructor <;> omega
  have hfe : findE i.key st.ents = none := f.none hh
  have hin : ∀ e : Ent, none = some e → e.2 ∈ st.slab.inn := fun (e : Ent) he => f.good.chunks.mem_iff.1 (List.mem_map.2 ⟨e, (findE_some (hfe.trans he)).1, rfl⟩)
  have hte := fits_take none rfl hin hfit
  have hsS := f.smallS hn
  have hsF : Small (freedH st none) 10000 := small_mono (f.good.nine.2 : Small (freedH st none) 9000) (by decide)
  have h5 := f.small5 hn
  have hlR := f.lenR hn
  have gd := hide (goodH_put f.good hi hs2 hfe hfit (by have := f.good.few; omega) hl)
  obtain ⟨ck, hckE⟩ : ∃ ck, takeCk (freedH st none) (sizeI i) = ck := ⟨_, rfl⟩
  have HCK := hide hckE
  have HTE := hide hte
  have HFF := hide f
  have H0 := (H.box (.cells (itC (itOf i a c)) 75)).rot
  clear H hckE hte hin hfe hfit f
  go_enter Tryz.func165, Tryz.ntmps165
  go_upto_region 3 with fail
  replace H0 := H0.drew
  obtain ⟨-, -, c2, -⟩ := H0.headC
  have c3 := box_key2 H0.rot.q.1
  go_region_held (fun w' => w'.cell? ⟨b, 2, none⟩ = some (.pointer (some ⟨x.ob, 0, none⟩)) ∧ w'.cell? ⟨w.heap.size, 0, none⟩ = some (.string i.key)) (first | exact ⟨d2, d3⟩ | exact ⟨c2, c3⟩) ((go_at_call 194; refine (L.ls.add H0.list hlR i.key hkm).mono ?_; rintro e w1 ⟨rfl, own1, hL, hg, hgr⟩; have H1 := H0.toList hL hg hgr; clear hL hg hgr; obtain ⟨-, -, d2, -⟩ := H1.headC; have d3 := box_key2 H1.rot.q.1))
  go_upto_region 4 with fail
  have HA : PutA L F w0 b sd R (midH st i none) x.E x.ts w.heap.size (itOf i a c) w1.drew := ⟨_, H1.drew, rfl, rfl⟩
  clear H1 H0
  go_cut [6, 7] from 26 to 35 (fun s _e wx => ∃ kc, s = .pointer (some ⟨kc, 0, none⟩) ∧ PutC L F w0 b sd R (tookH st i none) x.E x.ts w.heap.size (itOf i a c) ck kc wx)
  case first =>
    obtain ⟨x1, H, hE1, ht1⟩ := HA
    replace H := hide H
    go_region_held3 (fun w' => w'.cell? ⟨b, 1, none⟩ = some (.pointer (some ⟨x1.sb, 0, none⟩)) ∧ w'.cell? ⟨w.heap.size, 0, none⟩ = some (.string i.key) ∧ w'.cell? ⟨w.heap.size, 1, none⟩ = some (.slice a i.val.length c) ∧ w'.cell? ⟨w.heap.size, 2, none⟩ = some (.int .u32 i.fl) ∧ w'.cell? ⟨w.heap.size, 3, none⟩ = some (.int .i64 i.exp) ∧ w'.cell? ⟨w.heap.size, 4, none⟩ = some (.int .u64 i.cas) ∧ w'.cell? ⟨w.heap.size, 5, none⟩ = some (.int .i64 i.sec) ∧ w'.cell? ⟨w.heap.size, 6, none⟩ = some (.int .u64 i.seq) ∧ w'.cell? ⟨w.heap.size, 7, none⟩ = some (.bool i.st) ∧ w'.cell? ⟨w.heap.size, 8, none⟩ = some (.bool i.won) ∧ w'.cell? ⟨w.heap.size, 9, none⟩ = some (.bool i.seen)) (first | (have q := put_cells H.out; exact q) | (have q := put_cells2 H.out; exact q) | (have q := put_cells2 (H.out.boxW (.cells #[.int .i64 0, .int .i64 0] 92)).rot; exact q) | (have q := put_cells2 (H.out.box (.cells #[.int .i64 0, .int .i64 0] 92)).rot; exact q) | (have q := put_cells2 (put_set (u' := .int .i64 ck.1) (v' := .int .i64 ck.2) H.out); exact q) | (have q := put_cells2 (H.out.box (.cells #[.int .i64 ck.1, .int .i64 ck.2] 92)).rot; exact q))
      ((first
        | (go_at_call 163; refine (HZ.out _).mono ?_; rintro e w2 ⟨rfl, hg⟩; (first | (have H2 := H.out.step hg.grown) | (have H2 := (H.out.boxW (.cells #[.int .i64 0, .int .i64 0] 92)).rot.step hg.grown) | (have H2 := (H.out.box (.cells #[.int .i64 0, .int .i64 0] 92)).rot.step hg.grown)); replace H := hide H2; clear H2 hg)
        | (go_at_call 195; refine (L.sl.take H.out.slab hsF (sizeI i) hsz).mono ?_; rintro e w3 ⟨he, own3, hS, hg, hgr⟩; have he1 : e = .returned (.tuple #[ckV (takeCk (freedH st none) (sizeI i)), .int .i64 (takeErr (freedH st none) (sizeI i))]) := he; rw [HCK.out, HTE.out] at he1; have he2 : e = .returned (.tuple #[.agg #[.int .i64 ck.1, .int .i64 ck.2], .int .i64 0]) := he1; subst he2; have H3 := H.out.toSlab hS hg hgr; replace H := hide H3; clear hS hg hgr he he1; try (obtain ⟨g0, g1, g2, g3⟩ := put_get H3))
        | (go_at_call 195; refine (L.sl.take (H.out.box (.cells #[.int .i64 0, .int .i64 0] 92)).rot.slab hsF (sizeI i) hsz).mono ?_; rintro e w3 ⟨he, own3, hS, hg, hgr⟩; have he1 : e = .returned (.tuple #[ckV (takeCk (freedH st none) (sizeI i)), .int .i64 (takeErr (freedH st none) (sizeI i))]) := he; rw [HCK.out, HTE.out] at he1; have he2 : e = .returned (.tuple #[.agg #[.int .i64 ck.1, .int .i64 ck.2], .int .i64 0]) := he1; subst he2; have H3 := (H.out.box (.cells #[.int .i64 0, .int .i64 0] 92)).rot.toSlab hS hg hgr; replace H := hide H3; clear hS hg hgr he he1; try (obtain ⟨g0, g1, g2, g3⟩ := put_get H3))))
    all_goals
      go_wp2_with fail
      go_meet
      first
        | exact ⟨_, rfl, _, (H.out.box (.cells #[.int .i64 ck.1, .int .i64 ck.2] 92)).rot, hE1, ht1⟩
        | exact ⟨_, rfl, _, put_set (H.out.box (.cells #[.int .i64 0, .int .i64 0] 92)).rot, hE1, ht1⟩
        | exact ⟨_, rfl, _, put_set H.out, hE1, ht1⟩
  case rest =>
    clear HA HZ
    obtain ⟨kc, rfl, x2, H2, hE2, ht2⟩ := hcut
    have h52 : SmallT x2.ts 5000 := by rw [ht2]; exact h5
    go_upto_region 5 with fail
    have H := hide H2.drew
    clear H2
    go_region_held3 (fun w' => w'.cell? ⟨b, 0, none⟩ = some (.pointer (some ⟨x2.tb, 0, none⟩)) ∧ (w'.cell? ⟨kc, 0, none⟩ = some (.int .i64 ck.1) ∧ w'.cell? ⟨kc, 1, none⟩ = some (.int .i64 ck.2)) ∧ w'.cell? ⟨w.heap.size, 0, none⟩ = some (.string i.key) ∧ w'.cell? ⟨w.heap.size, 1, none⟩ = some (.slice a i.val.length c) ∧ w'.cell? ⟨w.heap.size, 2, none⟩ = some (.int .u32 i.fl) ∧ w'.cell? ⟨w.heap.size, 3, none⟩ = some (.int .i64 i.exp) ∧ w'.cell? ⟨w.heap.size, 4, none⟩ = some (.int .u64 i.cas) ∧ w'.cell? ⟨w.heap.size, 5, none⟩ = some (.int .i64 i.sec) ∧ w'.cell? ⟨w.heap.size, 6, none⟩ = some (.int .u64 i.seq) ∧ w'.cell? ⟨w.heap.size, 7, none⟩ = some (.bool i.st) ∧ w'.cell? ⟨w.heap.size, 8, none⟩ = some (.bool i.won) ∧ w'.cell? ⟨w.heap.size, 9, none⟩ = some (.bool i.seen)) (first | (have q := put5 H.out; exact q) | (have q := put5 H.out.unbox; exact q) | (have q := put5 H.out.unbox.unbox; exact q) | (have q := put5 (H.out.box (.cells #[.string i.key, .slice a5 i.val.length c5, .int .u32 i.fl, .int .i64 i.exp, .int .u64 i.cas, .int .i64 i.sec, .int .u64 i.seq, .bool i.st, .bool i.won, .bool i.seen, .int .i64 ck.1, .int .i64 ck.2] 130)).rot.unbox.unbox; exact q))
      ((first
        | (go_at_call 54; refine (own_any i hv9 (hrd.on H.out.gr)).mono ?_; rintro e w5 ⟨a5, c5, he, hv, hg⟩; have he2 : e = .returned (.agg #[.string i.key, .slice a5 i.val.length c5, .int .u32 i.fl, .int .i64 i.exp, .int .u64 i.cas, .int .i64 i.sec, .int .u64 i.seq, .bool i.st, .bool i.won, .bool i.seen]) := he; subst he2; have H5 := (hv.new H.out hg).rot; replace H := hide H5; clear H5 hv hg he)
        | (go_at_call 196; refine (L.tb.put (H.out.box _).rot.tabl h52 i.key hk3 (w5.heap.size : Int) (Int.natCast_nonneg _)).mono ?_; rintro e w6 ⟨⟨vv, rfl⟩, own6, hT, hg, hgr⟩; have H6 := (H.out.box _).rot.toTab hT hg hgr; replace H := hide H6; clear H6 hT hg hgr)))
    all_goals
      go_wp2_with fail
      go_end0
      exact ⟨⟨_, rfl⟩, put_end H.out hE2 (by show putT x2.ts i.key _ = _; rw [ht2]) HFF.out gd.out HCK.out⟩
set_option maxRecDepth 100000 in
set_option maxHeartbeats 8000000 in
theorem put_some (H : LawF F w0 w ((shP L b sd st x).and R)) (f : Fit n st x) (hn : n ≤ 4398046511104) (hl : n ≤ 900 ∨ st.slab.bud ≤ 57600) (i : Iv) (hi : i.ok) (hs2 : sizeI i ≤ 2048) (a : Option Addr) (c : Nat) (hrd : ReadAt w0 F a c i.val) (y : Eb) (hh : findB i.key x.E = some y) (hfit : fitsS st.slab (sizeI i) (lessH (some y.ent)) = true) :
    Calls Tryz.prog 165 #[.pointer (some ⟨b, 0, none⟩), .agg (itC (itOf i a c)), .pointer (some ⟨y.blk, 0, none⟩)] w fun e w' => (∃ v, e = .returned v) ∧ ∃ E, After L F w0 w' b sd (n + 1) R (putH st i (some y.ent)) E := by
  have mixed : Tryz.prog.follows .mixedOrders = true := by kernel_rfl
  have hk3 := hi.key
  have hv3 := hi.val
  have hv9 : i.val.length ≤ 100000 := by unfold sizeI at hs2; omega
  have hkm : i.key.size ≤ maxLen := Nat.le_trans hk3 (by decide)
  have HZ := hide (fun W => L.it.size (itOf i a c) W (Nat.le_trans hk3 (by decide)) (Nat.le_trans hv3 (by decide)))
  rw [show (50 + ((itOf i a c).key.size : Nat) + ((itOf i a c).vl : Nat) : Int) = sizeI i from rfl] at HZ
  have hsz : I64 (sizeI i) := by
    unfold sizeI
    constructor <;> omega
  have hfe : findE i.key st.ents = some y.ent := f.some hh
  have hin : ∀ e : Ent, (some y.ent) = some e → e.2 ∈ st.slab.inn := fun (e : Ent) he => f.good.chunks.mem_iff.1 (List.mem_map.2 ⟨e, (findE_some (hfe.trans he)).1, rfl⟩)
  have hte := fits_take (some y.ent) rfl hin hfit
  have hsS := f.smallS hn
  have hsF : Small (freedH st (some y.ent)) 10000 := small_mono (small_free f.good.nine.2 _) (by decide)
  have h5 := f.small5 hn
  have hlR := f.lenR hn
  have hy := (findB_some hh).1
  have hck := f.ckOk hn hy
  have gd := hide (goodH_put f.good hi hs2 hfe hfit (by have := f.good.few; omega) hl)
  obtain ⟨ck, hckE⟩ : ∃ ck, takeCk (freedH st (some y.ent)) (sizeI i) = ck := ⟨_, rfl⟩
  have HCK := hide hckE
  have HTE := hide hte
  have HFF := hide f
  have H0 := (H.box (.cells (itC (itOf i a c)) 75)).rot
  clear H hckE hte hin hfe hfit f
  go_enter Tryz.func165, Tryz.ntmps165
  go_upto_region 2 with fail
  replace H0 := H0.drew
  obtain ⟨-, c1, -⟩ := H0.headC
  obtain ⟨-, k1, k2, -⟩ := ent_cells (H0.entAt hy)
  go_region_held (fun w' => w'.cell? ⟨b, 1, none⟩ = some (.pointer (some ⟨x.sb, 0, none⟩)) ∧ w'.cell? ⟨y.blk, 10, none⟩ = some (.int .i64 y.ck.1) ∧ w'.cell? ⟨y.blk, 11, none⟩ = some (.int .i64 y.ck.2)) (first | exact ⟨d1, k3, k4⟩ | exact ⟨c1, k1, k2⟩) ((go_at_call 141; refine (L.sl.free H0.slab hsS y.ck hck).mono ?_; rintro e w1 ⟨rfl, own1, hS, hg, hgr⟩; have H1 := H0.toSlab hS hg hgr; clear hS hg hgr; obtain ⟨-, d1, -⟩ := H1.headC; obtain ⟨-, k3, k4, -⟩ := ent_cells (H1.entAt hy)))
  go_upto_region 4 with fail
  have HA : PutA L F w0 b sd R (midH st i (some y.ent)) x.E x.ts w.heap.size (itOf i a c) w1.drew := ⟨_, H1.drew, rfl, rfl⟩
  clear H1 H0
  go_cut [6, 7] from 26 to 35 (fun s _e wx => ∃ kc, s = .pointer (some ⟨kc, 0, none⟩) ∧ PutC L F w0 b sd R (tookH st i (some y.ent)) x.E x.ts w.heap.size (itOf i a c) ck kc wx)
  case first =>
    obtain ⟨x1, H, hE1, ht1⟩ := HA
    replace H := hide H
    go_region_held3 (fun w' => w'.cell? ⟨b, 1, none⟩ = some (.pointer (some ⟨x1.sb, 0, none⟩)) ∧ w'.cell? ⟨w.heap.size, 0, none⟩ = some (.string i.key) ∧ w'.cell? ⟨w.heap.size, 1, none⟩ = some (.slice a i.val.length c) ∧ w'.cell? ⟨w.heap.size, 2, none⟩ = some (.int .u32 i.fl) ∧ w'.cell? ⟨w.heap.size, 3, none⟩ = some (.int .i64 i.exp) ∧ w'.cell? ⟨w.heap.size, 4, none⟩ = some (.int .u64 i.cas) ∧ w'.cell? ⟨w.heap.size, 5, none⟩ = some (.int .i64 i.sec) ∧ w'.cell? ⟨w.heap.size, 6, none⟩ = some (.int .u64 i.seq) ∧ w'.cell? ⟨w.heap.size, 7, none⟩ = some (.bool i.st) ∧ w'.cell? ⟨w.heap.size, 8, none⟩ = some (.bool i.won) ∧ w'.cell? ⟨w.heap.size, 9, none⟩ = some (.bool i.seen)) (first | (have q := put_cells H.out; exact q) | (have q := put_cells2 H.out; exact q) | (have q := put_cells2 (H.out.boxW (.cells #[.int .i64 0, .int .i64 0] 92)).rot; exact q) | (have q := put_cells2 (H.out.box (.cells #[.int .i64 0, .int .i64 0] 92)).rot; exact q) | (have q := put_cells2 (put_set (u' := .int .i64 ck.1) (v' := .int .i64 ck.2) H.out); exact q) | (have q := put_cells2 (H.out.box (.cells #[.int .i64 ck.1, .int .i64 ck.2] 92)).rot; exact q))
      ((first
        | (go_at_call 163; refine (HZ.out _).mono ?_; rintro e w2 ⟨rfl, hg⟩; (first | (have H2 := H.out.step hg.grown) | (have H2 := (H.out.boxW (.cells #[.int .i64 0, .int .i64 0] 92)).rot.step hg.grown) | (have H2 := (H.out.box (.cells #[.int .i64 0, .int .i64 0] 92)).rot.step hg.grown)); replace H := hide H2; clear H2 hg)
        | (go_at_call 195; refine (L.sl.take H.out.slab hsF (sizeI i) hsz).mono ?_; rintro e w3 ⟨he, own3, hS, hg, hgr⟩; have he1 : e = .returned (.tuple #[ckV (takeCk (freedH st (some y.ent)) (sizeI i)), .int .i64 (takeErr (freedH st (some y.ent)) (sizeI i))]) := he; rw [HCK.out, HTE.out] at he1; have he2 : e = .returned (.tuple #[.agg #[.int .i64 ck.1, .int .i64 ck.2], .int .i64 0]) := he1; subst he2; have H3 := H.out.toSlab hS hg hgr; replace H := hide H3; clear hS hg hgr he he1; try (obtain ⟨g0, g1, g2, g3⟩ := put_get H3))
        | (go_at_call 195; refine (L.sl.take (H.out.box (.cells #[.int .i64 0, .int .i64 0] 92)).rot.slab hsF (sizeI i) hsz).mono ?_; rintro e w3 ⟨he, own3, hS, hg, hgr⟩; have he1 : e = .returned (.tuple #[ckV (takeCk (freedH st (some y.ent)) (sizeI i)), .int .i64 (takeErr (freedH st (some y.ent)) (sizeI i))]) := he; rw [HCK.out, HTE.out] at he1; have he2 : e = .returned (.tuple #[.agg #[.int .i64 ck.1, .int .i64 ck.2], .int .i64 0]) := he1; subst he2; have H3 := (H.out.box (.cells #[.int .i64 0, .int .i64 0] 92)).rot.toSlab hS hg hgr; replace H := hide H3; clear hS hg hgr he he1; try (obtain ⟨g0, g1, g2, g3⟩ := put_get H3))))
    all_goals
      go_wp2_with fail
      go_meet
      first
        | exact ⟨_, rfl, _, (H.out.box (.cells #[.int .i64 ck.1, .int .i64 ck.2] 92)).rot, hE1, ht1⟩
        | exact ⟨_, rfl, _, put_set (H.out.box (.cells #[.int .i64 0, .int .i64 0] 92)).rot, hE1, ht1⟩
        | exact ⟨_, rfl, _, put_set H.out, hE1, ht1⟩
  case rest =>
    clear HA HZ
    obtain ⟨kc, rfl, x2, H2, hE2, ht2⟩ := hcut
    have h52 : SmallT x2.ts 5000 := by rw [ht2]; exact h5
    go_upto_region 5 with fail
    have H := hide H2.drew
    clear H2
    go_region_held3 (fun w' => w'.cell? ⟨b, 0, none⟩ = some (.pointer (some ⟨x2.tb, 0, none⟩)) ∧ (w'.cell? ⟨kc, 0, none⟩ = some (.int .i64 ck.1) ∧ w'.cell? ⟨kc, 1, none⟩ = some (.int .i64 ck.2)) ∧ w'.cell? ⟨w.heap.size, 0, none⟩ = some (.string i.key) ∧ w'.cell? ⟨w.heap.size, 1, none⟩ = some (.slice a i.val.length c) ∧ w'.cell? ⟨w.heap.size, 2, none⟩ = some (.int .u32 i.fl) ∧ w'.cell? ⟨w.heap.size, 3, none⟩ = some (.int .i64 i.exp) ∧ w'.cell? ⟨w.heap.size, 4, none⟩ = some (.int .u64 i.cas) ∧ w'.cell? ⟨w.heap.size, 5, none⟩ = some (.int .i64 i.sec) ∧ w'.cell? ⟨w.heap.size, 6, none⟩ = some (.int .u64 i.seq) ∧ w'.cell? ⟨w.heap.size, 7, none⟩ = some (.bool i.st) ∧ w'.cell? ⟨w.heap.size, 8, none⟩ = some (.bool i.won) ∧ w'.cell? ⟨w.heap.size, 9, none⟩ = some (.bool i.seen)) (first | (have q := put5 H.out; exact q) | (have q := put5 H.out.unbox; exact q) | (have q := put5 H.out.unbox.unbox; exact q) | (have q := put5 (H.out.box (.cells #[.string i.key, .slice a5 i.val.length c5, .int .u32 i.fl, .int .i64 i.exp, .int .u64 i.cas, .int .i64 i.sec, .int .u64 i.seq, .bool i.st, .bool i.won, .bool i.seen, .int .i64 ck.1, .int .i64 ck.2] 130)).rot.unbox.unbox; exact q))
      ((first
        | (go_at_call 54; refine (own_any i hv9 (hrd.on H.out.gr)).mono ?_; rintro e w5 ⟨a5, c5, he, hv, hg⟩; have he2 : e = .returned (.agg #[.string i.key, .slice a5 i.val.length c5, .int .u32 i.fl, .int .i64 i.exp, .int .u64 i.cas, .int .i64 i.sec, .int .u64 i.seq, .bool i.st, .bool i.won, .bool i.seen]) := he; subst he2; have H5 := (hv.new H.out hg).rot; replace H := hide H5; clear H5 hv hg he)
        | (go_at_call 196; refine (L.tb.put (H.out.box _).rot.tabl h52 i.key hk3 (w5.heap.size : Int) (Int.natCast_nonneg _)).mono ?_; rintro e w6 ⟨⟨vv, rfl⟩, own6, hT, hg, hgr⟩; have H6 := (H.out.box _).rot.toTab hT hg hgr; replace H := hide H6; clear H6 hT hg hgr)))
    all_goals
      go_wp2_with fail
      go_end0
      exact ⟨⟨_, rfl⟩, put_end H.out hE2 (by show putT x2.ts i.key _ = _; rw [ht2]) HFF.out gd.out HCK.out⟩
theorem put_in (H : LawF F w0 w ((shP L b sd st x).and R)) (f : Fit n st x) (hn : n ≤ 4398046511104) (hl : n ≤ 900 ∨ st.slab.bud ≤ 57600) (i : Iv) (hi : i.ok) (hs2 : sizeI i ≤ 2048) (a : Option Addr) (c : Nat) (hrd : ReadAt w0 F a c i.val) (had : Option Eb) (hh : findB i.key x.E = had) (hfit : fitsS st.slab (sizeI i) (lessH (had.map Eb.ent)) = true) :
    Calls Tryz.prog 165 #[.pointer (some ⟨b, 0, none⟩), .agg (itC (itOf i a c)), ptrB had] w fun e w' => (∃ v, e = .returned v) ∧ ∃ E, After L F w0 w' b sd (n + 1) R (putH st i (had.map Eb.ent)) E := by
  cases had with
  | none => exact put_none H f hn hl i hi hs2 a c hrd hh hfit
  | some y => exact put_some H f hn hl i hi hs2 a c hrd y hh hfit
end
end Go.Proofs.YtkfeafmpaodagaaGreatDoor

namespace Go.Proofs.YtkfeafmpaodagaaGreatDoor
open Go.RowKit Go.Shelf
variable {Sl : World → Nat → (Nat → Prop) → Sb → Prop} {Ls : World → Nat → (Nat → Prop) → Sr → Prop} {Jd : World → Nat → List Nat → Nat → Js → Prop} {Tb : World → Nat → (Nat → Prop) → Ts → Prop}

section
variable {L : Libs Sl Ls Jd Tb} {F : Nat → Prop} {w0 w : World} {b sd n : Nat} {st : Hs} {x : Sx} {R : Part}
theorem room_any (H : LawF F w0 w ((shP L b sd st x).and R)) (f : Fit n st x) (hn : n ≤ 4398046511104) (i : Iv) (hi : i.ok) (a : Option Addr) (c : Nat) (en : En) (hen : en.ok) (had : Option Eb) (hh : findB i.key x.E = had) :
    Calls Tryz.prog 164 #[.pointer (some ⟨b, 0, none⟩), .agg (itC (itOf i a c)), ptrB had, .agg (enC en)] w (RoomEnd L F w0 b sd n R i had (roomH sd i (had.map Eb.ent) en st)) := by
  cases had with
  | none => exact room_none H f hn i hi a c en hen hh
  | some y => exact room_some H f hn i hi a c en hen y hh
/-- What is found behind a look. -/
theorem look_found (f : Fit n st x) (s : ByteArray) (en : En) : findB s (lookB s en x.E) = livB s en x.E ∧ (livB s en x.E).map Eb.ent = livingH st s en := by
  unfold lookB livB livingH
  rw [f.find]
  cases hf : findB s x.E with
  | none => exact ⟨hf, rfl⟩
  | some y =>
    dsimp only [Option.map_some]
    by_cases hl : liveI y.iv en = true
    · rw [if_pos hl, if_pos hl, if_pos (show liveI y.ent.1 en = true from hl)]
      exact ⟨hf, rfl⟩
    · rw [if_neg hl, if_neg hl, if_neg (show ¬ liveI y.ent.1 en = true from hl)]
      refine ⟨?_, rfl⟩
      unfold findB
      rw [List.find?_eq_none]
      intro z hz
      have := (mem_delB.1 hz).2
      simpa using this
set_option maxRecDepth 100000 in
set_option maxHeartbeats 8000000 in
theorem store_in (H : LawF F w0 w ((shP L b sd st x).and R)) (f : Fit n st x) (hn : n ≤ 4398046511104) (hl : n ≤ 900 ∨ st.slab.bud ≤ 57600) (i : Iv) (hi : i.ok) (a : Option Addr) (c : Nat) (hrd : ReadAt w0 F a c i.val) (en : En) (hen : en.ok) :
    Calls Tryz.prog 135 #[.pointer (some ⟨b, 0, none⟩), .agg (itC (itOf i a c)), .agg (enC en)] w fun e w' => e = .returned (.int .i64 (storeH sd st i en).1) ∧ ∃ E, After L F w0 w' b sd (n + 1) R (storeH sd st i en).2 E := by
  have hk3 := hi.key
  have hv3 := hi.val
  have HZ := hide (fun W => L.it.size (itOf i a c) W (Nat.le_trans hk3 (by decide)) (Nat.le_trans hv3 (by decide)))
  rw [show (50 + ((itOf i a c).key.size : Nat) + ((itOf i a c).vl : Nat) : Int) = sizeI i from rfl] at HZ
  have hsz : I64 (sizeI i) := by
    unfold sizeI
    constructor <;> omega
  have HC := hide (fun W => L.sl.cls (sizeI i) hsz W)
  have H0 := ((H.box (.cells (itC (itOf i a c)) 75)).box (.cells (enC en) 35)).rin.rot.rin
  rw [World.size_alloc] at H0
  clear H
  by_cases hbig : 2048 < sizeI i
  · have hst : storeH sd st i en = (4, st) := by unfold storeH; rw [if_pos hbig]
    have hce : clsErr (sizeI i) = 4 := by unfold clsErr; rw [if_neg (by omega)]
    have HCE := hide hce
    rw [hst]
    clear hst hce hbig
    go_enter Tryz.func135, Tryz.ntmps135
    go_wp2_with (first
      | (refine wpList_load_row rfl 75 _ rfl w.heap.size rfl _ (itC (itOf i a c)) _ _ H0.rot.q.1 Tryz.underlying75 rfl (item_size _) ?_)
      | (go_at_call 163; refine (HZ.out _).mono ?_; rintro e w1 ⟨rfl, hg⟩; have H1 := H0.step hg.grown; clear hg)
      | (go_at_call 162; refine (HC.out _).mono ?_; rintro e w2 ⟨he, hg⟩; rw [HCE.out] at he; subst he; have H2 := H1.step hg; clear hg))
    go_ret
    exact ⟨rfl, x.E, x, H2.unbox.unbox, ⟨f.small, f.tab, f.ents, f.blks, goodH_mono f.good (Nat.le_succ n) (hl.imp Nat.succ_le_succ id)⟩, rfl⟩
  · have hce : clsErr (sizeI i) = 0 := by unfold clsErr; rw [if_pos (by omega)]
    have hs2 : sizeI i ≤ 2048 := by omega
    have HCE := hide hce
    obtain ⟨lf1, lf2⟩ := look_found f i.key en
    have gl := goodH_look f.good i.key en
    have rg := room_good sd i (livingH st i.key en) en _ _ rfl gl
    have hst : storeH sd st i en = if (roomH sd i (livingH st i.key en) en (lookH st i.key en)).1 = 0 then (0, putH (roomH sd i (livingH st i.key en) en (lookH st i.key en)).2 i (livingH st i.key en)) else roomH sd i (livingH st i.key en) en (lookH st i.key en) := by
      unfold storeH
      rw [if_neg hbig]
    rw [← lf2] at hst rg
    obtain ⟨had, hhad⟩ : ∃ had, livB i.key en x.E = had := ⟨_, rfl⟩
    rw [hhad] at lf1 hst rg
    obtain ⟨rr, hrr⟩ : ∃ rr, roomH sd i (had.map Eb.ent) en (lookH st i.key en) = rr := ⟨_, rfl⟩
    rw [hrr] at hst rg
    have HL4 : Hid (n ≤ 900 ∨ rr.2.slab.bud ≤ 57600) := by
      show _ ∨ _
      rw [rg.1.bud, (look_drops (en := en)).2.1]
      exact hl
    have HRR := hide hrr
    have HHAD := hide hhad
    have HLF := hide lf1
    clear hrr hhad lf1 lf2 gl hbig hce
    by_cases h0 : rr.1 = 0
    · have hfit := hide (rg.2.1 h0)
      rw [if_pos h0] at hst
      rw [hst]
      have HR0 := hide h0
      clear hst rg h0
      go_enter Tryz.func135, Tryz.ntmps135
      go_wp2_with (first
        | (refine wpList_load_row rfl 75 _ rfl w.heap.size rfl _ (itC (itOf i a c)) _ _ H0.rot.q.1 Tryz.underlying75 rfl (item_size _) ?_)
        | (go_at_call 163; refine (HZ.out _).mono ?_; rintro e w1 ⟨rfl, hg⟩; have H1 := H0.step hg.grown; clear hg)
        | (go_at_call 162; refine (HC.out _).mono ?_; rintro e w2 ⟨he, hg⟩; rw [HCE.out] at he; subst he; have H2 := H1.step hg; clear hg H0; have c2 := box_key2 H2.rot.q.1)
        | (have t := H2; clear t; refine wpList_load_row rfl 35 _ rfl (w.heap.size + 1) rfl _ (enC en) _ _ H2.rot.right.rot.q.1 Tryz.underlying35 rfl (env_size _) ?_)
        | (go_at_call 53; refine (living_in H2 f hn i.key hk3 en hen).mono ?_; rw [HHAD.out]; rintro e w3 ⟨rfl, x3, H3, f3, hE3⟩; clear H2 c2)
        | (refine wpList_load_row rfl 75 _ rfl w.heap.size rfl _ (itC (itOf i a c)) _ _ H3.rot.q.1 Tryz.underlying75 rfl (item_size _) ?_)
        | (refine wpList_load_row rfl 35 _ rfl (w.heap.size + 1) rfl _ (enC en) _ _ H3.rot.right.rot.q.1 Tryz.underlying35 rfl (env_size _) ?_)
        | (go_at_call 164; refine (room_any H3 f3 hn i hi a c en hen had (by rw [hE3]; exact HLF.out)).mono ?_; rw [HRR.out]; rintro e w4 ⟨he, E4, ⟨x4, H4, f4, hE4⟩, hh4⟩; rw [HR0.out] at he; subst he; clear H3)
        | (refine wpList_load_row rfl 75 _ rfl w.heap.size rfl _ (itC (itOf i a c)) _ _ H4.rot.q.1 Tryz.underlying75 rfl (item_size _) ?_)
        | (go_at_call 165; refine (put_in H4 f4 hn HL4.out i hi hs2 a c hrd had (by rw [hE4]; exact hh4) hfit.out).mono ?_; rintro e w5 ⟨⟨v, rfl⟩, E5, x5, H5, f5, hE5⟩))
      go_ret
      exact ⟨rfl, E5, x5, H5.unbox.unbox, f5, hE5⟩
    · rw [if_neg h0] at hst
      rw [hst]
      obtain ⟨r, hr⟩ : ∃ r, rr.1 = r := ⟨_, rfl⟩
      rw [hr]
      have hr58 : r = 5 ∨ r = 8 := by
        rcases rg.2.2 with h | h | h
        · exact absurd h h0
        · exact .inl (hr.symm.trans h)
        · exact .inr (hr.symm.trans h)
      have HR0 := hide hr
      clear hst rg h0 hr
      rcases hr58 with rfl | rfl
      all_goals
        go_enter Tryz.func135, Tryz.ntmps135
        go_wp2_with (first
          | (refine wpList_load_row rfl 75 _ rfl w.heap.size rfl _ (itC (itOf i a c)) _ _ H0.rot.q.1 Tryz.underlying75 rfl (item_size _) ?_)
          | (go_at_call 163; refine (HZ.out _).mono ?_; rintro e w1 ⟨rfl, hg⟩; have H1 := H0.step hg.grown; clear hg)
          | (go_at_call 162; refine (HC.out _).mono ?_; rintro e w2 ⟨he, hg⟩; rw [HCE.out] at he; subst he; have H2 := H1.step hg; clear hg H0; have c2 := box_key2 H2.rot.q.1)
          | (have t := H2; clear t; refine wpList_load_row rfl 35 _ rfl (w.heap.size + 1) rfl _ (enC en) _ _ H2.rot.right.rot.q.1 Tryz.underlying35 rfl (env_size _) ?_)
          | (go_at_call 53; refine (living_in H2 f hn i.key hk3 en hen).mono ?_; rw [HHAD.out]; rintro e w3 ⟨rfl, x3, H3, f3, hE3⟩; clear H2 c2)
          | (refine wpList_load_row rfl 75 _ rfl w.heap.size rfl _ (itC (itOf i a c)) _ _ H3.rot.q.1 Tryz.underlying75 rfl (item_size _) ?_)
          | (refine wpList_load_row rfl 35 _ rfl (w.heap.size + 1) rfl _ (enC en) _ _ H3.rot.right.rot.q.1 Tryz.underlying35 rfl (env_size _) ?_)
          | (go_at_call 164; refine (room_any H3 f3 hn i hi a c en hen had (by rw [hE3]; exact HLF.out)).mono ?_; rw [HRR.out]; rintro e w4 ⟨he, E4, ⟨x4, H4, f4, hE4⟩, hh4⟩; rw [HR0.out] at he; subst he; clear H3))
        go_ret
        exact ⟨rfl, E4, x4, H4.unbox.unbox, ⟨f4.small, f4.tab, f4.ents, f4.blks, goodH_mono f4.good (Nat.le_succ n) (HL4.out.imp Nat.succ_le_succ id)⟩, hE4⟩
end
end Go.Proofs.YtkfeafmpaodagaaGreatDoor
