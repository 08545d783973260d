/- makeRoom of package shard: the search for room. Conditions: the contracts of the packages beneath it; at most 900 stores, keys of at most 300 bytes. -/
import Derived.Test.YtkfeafmpaodagaaGreatDoorG27Joined
import Derived.WalkMore
namespace Go.Proofs.YtkfeafmpaodagaaGreatDoor
open Go.RowKit Go.Shelf
variable {Sl : World → Nat → (Nat → Prop) → Sb → Prop} {Ls : World → Nat → (Nat → Prop) → Sr → Prop} {Jd : World → Nat → List Nat → Nat → Js → Prop} {Tb : World → Nat → (Nat → Prop) → Ts → Prop}

theorem least_of {P : Nat → Prop} : ∀ m, P m → ∃ m, P m ∧ ∀ k, P k → m ≤ k := by
  intro m
  induction m using Nat.strongRecOn with
  | _ m ih =>
    intro hm
    by_cases h : ∃ k, k < m ∧ P k
    · obtain ⟨k, hk, hp⟩ := h
      exact ih k hk hp
    · exact ⟨m, hm, fun k hk => Nat.le_of_not_lt fun hl => h ⟨k, hl, hk⟩⟩
/-- The least number of which something is said. -/
theorem least_fn {α : Type} (P : Nat → α → Prop) : ∃ mu : α → Nat, ∀ w, (∃ m, P m w) → P (mu w) w ∧ ∀ k, P k w → mu w ≤ k := by
  have h : ∀ w, ∃ m, (∃ m, P m w) → P m w ∧ ∀ k, P k w → m ≤ k := fun w => by
    by_cases h : ∃ m, P m w
    · obtain ⟨m, hm⟩ := h
      obtain ⟨l, hl⟩ := least_of (P := fun m => P m w) m hm
      exact ⟨l, fun _ => hl⟩
    · exact ⟨0, fun h' => absurd h' h⟩
  exact ⟨fun w => Classical.choose (h w), fun w => Classical.choose_spec (h w)⟩
/-- Where the search stands. -/
def RoomI (L : Libs Sl Ls Jd Tb) (F : Nat → Prop) (w0 : World) (b sd n : Nat) (R : Part) (i : Iv) (a : Option Addr) (c : Nat) (en : En) (wb : Nat) (had : Option Eb) (res : Int × Hs) (m : Nat) (wr : World) : Prop :=
  ∃ st x, LawF F w0 wr ((shP L b sd st x).and ((boxP wb (.cells (itC (itOf i a c)) 75)).and ((boxP (wb + 1) (.cells (enC en) 35)).and R))) ∧ Fit n st x ∧ findB i.key x.E = had ∧ roomH sd i (had.map Eb.ent) en st = res ∧ x.E.length = m
def RoomEnd (L : Libs Sl Ls Jd Tb) (F : Nat → Prop) (w0 : World) (b sd n : Nat) (R : Part) (i : Iv) (had : Option Eb) (res : Int × Hs) (e : Ending) (w' : World) : Prop :=
  e = .returned (.int .i64 res.1) ∧ ∃ E, After L F w0 w' b sd n R res.2 E ∧ findB i.key E = had
theorem findB_del {k v : ByteArray} {E : List Eb} (h : k ≠ v) : findB k (delB v E) = findB k E := by
  unfold findB delB
  rw [List.find?_filter]
  congr 1
  funext y
  by_cases e : y.iv.key = k
  · simp [e, h]
  · simp [e]
theorem delB_len {v : ByteArray} {E : List Eb} {y : Eb} (h : findB v E = some y) : (delB v E).length < E.length := by
  obtain ⟨h1, h2⟩ := findB_some h
  exact List.length_filter_lt_length_iff_exists.2 ⟨y, h1, by simp [h2]⟩
section
variable {L : Libs Sl Ls Jd Tb} {F : Nat → Prop} {w0 w : World} {b sd n : Nat} {st : Hs} {x : Sx} {R : Part}
theorem fits_less (had : Option Eb) : I64 (lessH (had.map Eb.ent)) := by
  cases had with
  | none => exact ⟨by decide, by decide⟩
  | some y =>
    have h1 := bytes_nonneg y.ck.1
    have h2 := bytes_le y.ck.1
    show I64 (bytesC y.ck.1)
    constructor <;> omega
theorem box_key {W : World} {k : Nat} {i : Iv} {a : Option Addr} {c : Nat} {t : TypeId} (h : W.heap[k]? = some (.cells (itC (itOf i a c)) t (0, 0))) : W.cell? ⟨k, 0, none⟩ = some (.string i.key) := (it_cells h).1
theorem room_fin {W : World} {A B : Part} {i : Iv} {en : En} {had : Option Eb} {hE : Option Ent} {res : Int × Hs} {r : Int} (hr1 : roomH sd i hE en st = res) (hr : roomH sd i hE en st = (r, st)) (H : LawF F w0 W ((shP L b sd st x).and (A.and (B.and R)))) (f : Fit n st x) (hh : findB i.key x.E = had) : RoomEnd L F w0 b sd n R i had res (.returned (.int .i64 r)) W := by
  rw [hr] at hr1
  rw [← hr1]
  exact ⟨rfl, x.E, ⟨x, H.unbox.unbox, f, rfl⟩, hh⟩
theorem room_next {W wr : World} {i : Iv} {a : Option Addr} {c : Nat} {en : En} {wb m : Nat} {had : Option Eb} {res : Int × Hs} {mu : World → Nat} (hmu : ∀ w, (∃ m, RoomI L F w0 b sd n R i a c en wb had res m w) → RoomI L F w0 b sd n R i a c en wb had res (mu w) w ∧ ∀ k, RoomI L F w0 b sd n R i a c en wb had res k w → mu w ≤ k) (hm : m = mu wr)
    (H : LawF F w0 W ((shP L b sd st x).and ((boxP wb (.cells (itC (itOf i a c)) 75)).and ((boxP (wb + 1) (.cells (enC en) 35)).and R)))) (f : Fit n st x) (hh : findB i.key x.E = had) (hr : roomH sd i (had.map Eb.ent) en st = res) (hl : x.E.length < m) : (∃ m, RoomI L F w0 b sd n R i a c en wb had res m W) ∧ mu W < mu wr := by
  have hI : RoomI L F w0 b sd n R i a c en wb had res x.E.length W := ⟨st, x, H, f, hh, hr, rfl⟩
  refine ⟨⟨_, hI⟩, ?_⟩
  have := (hmu W ⟨_, hI⟩).2 _ hI
  omega
theorem look_dead (f : Fit n st x) {v : ByteArray} {z : Ent} {en : En} (hz : findE v st.ents = some z) (hl : liveI z.1 en = false) : livB v en x.E = none ∧ lookH st v en = dropH st v ∧ lookB v en x.E = delB v x.E ∧ (delB v x.E).length < x.E.length := by
  rw [f.find] at hz
  obtain ⟨y, hy, rfl⟩ := Option.map_eq_some_iff.1 hz
  have hl' : ¬ liveI y.iv en = true := by rw [show liveI y.iv en = false from hl]; decide
  refine ⟨by unfold livB; rw [hy]; exact if_neg hl', by unfold lookH; rw [f.some hy]; exact if_neg hl', by unfold lookB; rw [hy]; exact if_neg hl', delB_len hy⟩
theorem look_live (f : Fit n st x) {v : ByteArray} {z : Ent} {en : En} (hz : findE v st.ents = some z) (hl : liveI z.1 en = true) : ∃ y, livB v en x.E = some y ∧ lookH st v en = st ∧ lookB v en x.E = x.E ∧ findB v x.E = some y := by
  rw [f.find] at hz
  obtain ⟨y, hy, rfl⟩ := Option.map_eq_some_iff.1 hz
  exact ⟨y, by unfold livB; rw [hy]; exact if_pos hl, by unfold lookH; rw [f.some hy]; exact if_pos hl, by unfold lookB; rw [hy]; exact if_pos hl, hy⟩
set_option maxRecDepth 100000 in
set_option maxHeartbeats 8000000 in
theorem room_none (H : LawF F w0 w ((shP L b sd st x).and R)) (f : Fit n st x) (hn : n ≤ 4398046511104) (i : Iv) (hi : i.ok) (a : Option Addr) (c : Nat) (en : En) (hen : en.ok) (hh : findB i.key x.E = none) :
    Calls Tryz.prog 164 #[.pointer (some ⟨b, 0, none⟩), .agg (itC (itOf i a c)), .pointer none, .agg (enC en)] w (RoomEnd L F w0 b sd n R i none (roomH sd i none en st)) := by
  have mixed : Tryz.prog.follows .mixedOrders = true := by kernel_rfl
  have hk3 := hi.key
  have hv3 := hi.val
  have hkm : i.key.size ≤ maxLen := Nat.le_trans hk3 (by decide)
  have HZ := hide (fun W => L.it.size (itOf i a c) W (Nat.le_trans hk3 (by decide)) (Nat.le_trans hv3 (by decide)))
  rw [show (50 + ((itOf i a c).key.size : Nat) + ((itOf i a c).vl : Nat) : Int) = sizeI i from rfl] at HZ
  have hsz : I64 (sizeI i) := by
    unfold sizeI
    constructor <;> omega
  have h0 : I64 0 := ⟨by decide, by decide⟩
  have H0 := (((H.box (.cells (itC (itOf i a c)) 75)).box (.cells (enC en) 35)).rin.rot).rin
  rw [World.size_alloc] at H0
  obtain ⟨mu, hmu⟩ := least_fn (RoomI L F w0 b sd n R i a c en w.heap.size none (roomH sd i none en st))
  clear H
  go_enter Tryz.func164, Tryz.ntmps164
  go_wp2
  go_step3
  go_wp2_with (first
    | (refine wpList_load_row rfl 75 _ rfl w.heap.size rfl _ (itC (itOf i a c)) _ _ H0.rot.q.1 Tryz.underlying75 rfl (item_size _) ?_)
    | (go_at_call 163; refine (HZ.out _).mono ?_; rintro e w1 ⟨rfl, hg⟩; have H1 := H0.step hg.grown; clear hg))
  go_step3
  go_wp2
  go_loopw [11] (fun _ wr => ∃ m, RoomI L F w0 b sd n R i a c en w.heap.size none (roomH sd i none en st) m wr) (fun _ wr => mu wr)
  case atStart => exact ⟨_, st, x, H1, f, hh, rfl, rfl⟩
  case round =>
    clear H1 H0 f hh
    obtain ⟨st1, x1, H1, f1, hh1, hr1, hm1⟩ := (hmu wr hrel).1
    replace H1 := H1.drew
    clear hrel
    have HM1 := hide hm1
    have HR1 := hide hr1
    have HH1 := hide hh1
    clear hm1 hr1 hh1
    have hlR := Nat.le_of_lt (f1.lenR hn)
    have hsS := f1.smallS hn
    obtain ⟨-, c1, c2, -, -⟩ := H1.headC
    have c3 := box_key H1.rot.q.1
    rcases room_cases f1.good sd i none en with ⟨hf, hr⟩ | ⟨hf, ⟨hv, hr⟩ | ⟨v, z, hv, hz, hne, hsv, hc⟩⟩
    · have HF : Hid (fitsS st1.slab (sizeI i) 0 = true) := hf
      have HR := hide hr
      clear hf hr
      go_upto_region 4 with fail
      go_region_held (fun w' => w'.cell? ⟨b, 2, none⟩ = some (.pointer (some ⟨x1.ob, 0, none⟩)) ∧ w'.cell? ⟨w.heap.size, 0, none⟩ = some (.string i.key)) (first | exact ⟨c5, c6⟩ | exact ⟨c2, c3⟩) ((go_at_call 191; refine (L.ls.victim H1.list hlR i.key hkm).mono ?_; rintro e w2 ⟨he, hL, hg⟩; subst he; have H2 := H1.step hg; clear hL hg; obtain ⟨-, c4, c5, c7, -⟩ := H2.headC; have c6 := box_key H2.rot.q.1))
      go_wp2_with (go_at_call 192; refine (L.sl.fits H2.slab hsS (sizeI i) 0 hsz h0).mono ?_; rintro e w3 ⟨he, hS, hg⟩; rw [HF.out] at he; subst he; have H3 := H2.step hg; clear hS hg)
      try rw [Exit.noGoto_ret]
      go_ret
      exact room_fin HR1.out HR.out H3 f1 HH1.out
    · have HF : Hid (fitsS st1.slab (sizeI i) 0 = false) := hf
      have HR := hide hr
      have HV := hide hv
      clear hf hr hv
      go_upto_region 4 with fail
      go_region_held (fun w' => w'.cell? ⟨b, 2, none⟩ = some (.pointer (some ⟨x1.ob, 0, none⟩)) ∧ w'.cell? ⟨w.heap.size, 0, none⟩ = some (.string i.key)) (first | exact ⟨c5, c6⟩ | exact ⟨c2, c3⟩) ((go_at_call 191; refine (L.ls.victim H1.list hlR i.key hkm).mono ?_; rintro e w2 ⟨he, hL, hg⟩; rw [HV.out] at he; have he2 : e = .returned (.tuple #[.string ⟨#[]⟩, .bool false]) := he; subst he2; clear he; have H2 := H1.step hg; clear hL hg; obtain ⟨-, c4, c5, c7, -⟩ := H2.headC; have c6 := box_key H2.rot.q.1))
      go_wp2_with (go_at_call 192; refine (L.sl.fits H2.slab hsS (sizeI i) 0 hsz h0).mono ?_; rintro e w3 ⟨he, hS, hg⟩; rw [HF.out] at he; subst he; have H3 := H2.step hg; clear hS hg)
      try rw [Exit.noGoto_ret]
      go_ret
      exact room_fin HR1.out HR.out H3 f1 HH1.out
    · have HF : Hid (fitsS st1.slab (sizeI i) 0 = false) := hf
      have HV := hide hv
      have HNE := hide hne
      clear hf hv hne
      cases hlz : liveI z.1 en with
      | false =>
        obtain ⟨q1, q2, q3, q4⟩ := look_dead f1 hz hlz
        have HLB := hide (show livB v en x1.E = none ∧ lookH st1 v en = dropH st1 v ∧ lookB v en x1.E = delB v x1.E from ⟨q1, q2, q3⟩)
        have HQ := hide q4
        have hr : roomH sd i none en st1 = roomH sd i none en (dropH st1 v) := by
          rcases hc with ⟨h1, _⟩ | ⟨_, h2⟩
          · rw [hlz] at h1
            cases h1
          · exact h2
        have HR := hide hr
        clear q1 q2 q3 q4 hr hc hlz
        go_upto_region 4 with fail
        go_region_held (fun w' => w'.cell? ⟨b, 2, none⟩ = some (.pointer (some ⟨x1.ob, 0, none⟩)) ∧ w'.cell? ⟨w.heap.size, 0, none⟩ = some (.string i.key)) (first | exact ⟨c5, c6⟩ | exact ⟨c2, c3⟩) ((go_at_call 191; refine (L.ls.victim H1.list hlR i.key hkm).mono ?_; rintro e w2 ⟨he, hL, hg⟩; rw [HV.out] at he; have he2 : e = .returned (.tuple #[.string v, .bool true]) := he; subst he2; clear he; have H2 := H1.step hg; clear hL hg; obtain ⟨-, c4, c5, c7, -⟩ := H2.headC; have c6 := box_key H2.rot.q.1))
        go_wp2_with (first
          | (go_at_call 192; refine (L.sl.fits H2.slab hsS (sizeI i) 0 hsz h0).mono ?_; rintro e w3 ⟨he, hS, hg⟩; rw [HF.out] at he; subst he; have H3 := H2.step hg; clear hS hg)
          | (refine wpList_load_row rfl 35 _ rfl (w.heap.size + 1) rfl _ (enC en) _ _ H3.rot.right.rot.q.1 Tryz.underlying35 rfl (env_size _) ?_)
          | (go_at_call 53; refine (living_in H3 f1 hn v hsv en hen).mono ?_; rw [HLB.out.1, HLB.out.2.1, HLB.out.2.2]; rintro e w4 ⟨he, x4, H4, f4, hE4⟩; have he2 : e = .returned (.pointer none) := he; subst he2; clear he))
        have N := hide (room_next hmu HM1.out H4 f4 (by rw [hE4, findB_del (fun e => HNE.out e.symm)]; exact HH1.out) (by rw [← HR1.out]; exact HR.out.symm) (by rw [hE4]; exact HQ.out))
        go_roundw
        case rel => exact N.out.1
        case measure => exact N.out.2
      | true =>
        obtain ⟨u, q1, q2, q3, q4⟩ := look_live f1 hz hlz
        have HLB := hide (show livB v en x1.E = some u ∧ lookH st1 v en = st1 ∧ lookB v en x1.E = x1.E from ⟨q1, q2, q3⟩)
        have HQ := hide q4
        clear q1 q2 q3 q4
        rcases hc with ⟨_, _, hadm, hr⟩ | ⟨hor, hr⟩
        · have HA : Hid (decide (worthJ sd st1.jd v.data.toList < worthJ sd st1.jd i.key.data.toList) = false) := hadm
          have HR := hide hr
          clear hr hadm hlz
          go_upto_region 4 with fail
          go_region_held (fun w' => w'.cell? ⟨b, 2, none⟩ = some (.pointer (some ⟨x1.ob, 0, none⟩)) ∧ w'.cell? ⟨w.heap.size, 0, none⟩ = some (.string i.key)) (first | exact ⟨c5, c6⟩ | exact ⟨c2, c3⟩) ((go_at_call 191; refine (L.ls.victim H1.list hlR i.key hkm).mono ?_; rintro e w2 ⟨he, hL, hg⟩; rw [HV.out] at he; have he2 : e = .returned (.tuple #[.string v, .bool true]) := he; subst he2; clear he; have H2 := H1.step hg; clear hL hg; obtain ⟨-, c4, c5, c7, -⟩ := H2.headC; have c6 := box_key H2.rot.q.1))
          go_upto_region 10 with (first
            | (go_at_call 192; refine (L.sl.fits H2.slab hsS (sizeI i) 0 hsz h0).mono ?_; rintro e w3 ⟨he, hS, hg⟩; rw [HF.out] at he; subst he; have H3 := H2.step hg; clear hS hg)
            | (refine wpList_load_row rfl 35 _ rfl (w.heap.size + 1) rfl _ (enC en) _ _ H3.rot.right.rot.q.1 Tryz.underlying35 rfl (env_size _) ?_)
            | (go_at_call 53; refine (living_in H3 f1 hn v hsv en hen).mono ?_; rw [HLB.out.1, HLB.out.2.1, HLB.out.2.2]; rintro e w4 ⟨he, x4, H4, f4, hE4⟩; have he2 : e = .returned (.pointer (some ⟨u.blk, 0, none⟩)) := he; subst he2; clear he))
          replace H4 := H4.drew
          obtain ⟨-, -, -, c8, -⟩ := H4.headC
          have c9 := box_key H4.rot.q.1
          go_region_held (fun w' => w'.cell? ⟨b, 3, none⟩ = some (.pointer (some ⟨x4.jb, 0, none⟩)) ∧ w'.cell? ⟨w.heap.size, 0, none⟩ = some (.string i.key)) (first | exact ⟨d8, d9⟩ | exact ⟨c8, c9⟩) ((go_at_call 193; refine (L.jd.admits H4.judge i.key v hk3 hsv).mono ?_; rintro e w5 ⟨he, hJ, hg⟩; rw [HA.out] at he; subst he; have H5 := H4.step hg; clear hJ hg; obtain ⟨-, -, -, d8, -⟩ := H5.headC; have d9 := box_key H5.rot.q.1))
          all_goals
            go_wp2_with fail
            try rw [Exit.noGoto_ret]
            go_ret
            exact room_fin HR1.out HR.out H5 f4 (by rw [hE4]; exact HH1.out)
        · have HA : Hid (decide (worthJ sd st1.jd v.data.toList < worthJ sd st1.jd i.key.data.toList) = true) := by
            rcases hor with h1 | h1 | h1
            · rw [hlz] at h1
              cases h1
            · exact absurd rfl h1
            · exact h1
          have HR := hide hr
          clear hr hor hlz
          go_upto_region 4 with fail
          go_region_held (fun w' => w'.cell? ⟨b, 2, none⟩ = some (.pointer (some ⟨x1.ob, 0, none⟩)) ∧ w'.cell? ⟨w.heap.size, 0, none⟩ = some (.string i.key)) (first | exact ⟨c5, c6⟩ | exact ⟨c2, c3⟩) ((go_at_call 191; refine (L.ls.victim H1.list hlR i.key hkm).mono ?_; rintro e w2 ⟨he, hL, hg⟩; rw [HV.out] at he; have he2 : e = .returned (.tuple #[.string v, .bool true]) := he; subst he2; clear he; have H2 := H1.step hg; clear hL hg; obtain ⟨-, c4, c5, c7, -⟩ := H2.headC; have c6 := box_key H2.rot.q.1))
          go_upto_region 10 with (first
            | (go_at_call 192; refine (L.sl.fits H2.slab hsS (sizeI i) 0 hsz h0).mono ?_; rintro e w3 ⟨he, hS, hg⟩; rw [HF.out] at he; subst he; have H3 := H2.step hg; clear hS hg)
            | (refine wpList_load_row rfl 35 _ rfl (w.heap.size + 1) rfl _ (enC en) _ _ H3.rot.right.rot.q.1 Tryz.underlying35 rfl (env_size _) ?_)
            | (go_at_call 53; refine (living_in H3 f1 hn v hsv en hen).mono ?_; rw [HLB.out.1, HLB.out.2.1, HLB.out.2.2]; rintro e w4 ⟨he, x4, H4, f4, hE4⟩; have he2 : e = .returned (.pointer (some ⟨u.blk, 0, none⟩)) := he; subst he2; clear he))
          replace H4 := H4.drew
          obtain ⟨-, -, -, c8, -⟩ := H4.headC
          have c9 := box_key H4.rot.q.1
          go_region_held (fun w' => w'.cell? ⟨b, 3, none⟩ = some (.pointer (some ⟨x4.jb, 0, none⟩)) ∧ w'.cell? ⟨w.heap.size, 0, none⟩ = some (.string i.key)) (first | exact ⟨d8, d9⟩ | exact ⟨c8, c9⟩) ((go_at_call 193; refine (L.jd.admits H4.judge i.key v hk3 hsv).mono ?_; rintro e w5 ⟨he, hJ, hg⟩; rw [HA.out] at he; subst he; have H5 := H4.step hg; clear hJ hg; obtain ⟨-, -, -, d8, -⟩ := H5.headC; have d9 := box_key H5.rot.q.1))
          all_goals
            go_wp2_with (go_at_call 88; refine (drop_in H5 f4 hn v hsv (by rw [hE4]; exact HQ.out)).mono ?_; rintro e w6 ⟨⟨vv, rfl⟩, x6, H6, f6, hE6⟩)
            have N := hide (room_next hmu HM1.out H6 f6 (by rw [hE6, hE4, findB_del (fun e => HNE.out e.symm)]; exact HH1.out) (by rw [← HR1.out]; exact HR.out.symm) (by rw [hE6, hE4]; exact delB_len HQ.out))
            go_roundw
            case rel => exact N.out.1
            case measure => exact N.out.2
set_option maxRecDepth 100000 in
set_option maxHeartbeats 8000000 in
theorem room_some (H : LawF F w0 w ((shP L b sd st x).and R)) (f : Fit n st x) (hn : n ≤ 4398046511104) (i : Iv) (hi : i.ok) (a : Option Addr) (c : Nat) (en : En) (hen : en.ok) (y : Eb) (hh : findB i.key x.E = some y) :
    Calls Tryz.prog 164 #[.pointer (some ⟨b, 0, none⟩), .agg (itC (itOf i a c)), .pointer (some ⟨y.blk, 0, none⟩), .agg (enC en)] w (RoomEnd L F w0 b sd n R i (some y) (roomH sd i (some y.ent) en st)) := by
  have mixed : Tryz.prog.follows .mixedOrders = true := by kernel_rfl
  have hk3 := hi.key
  have hv3 := hi.val
  have hkm : i.key.size ≤ maxLen := Nat.le_trans hk3 (by decide)
  have HZ := hide (fun W => L.it.size (itOf i a c) W (Nat.le_trans hk3 (by decide)) (Nat.le_trans hv3 (by decide)))
  rw [show (50 + ((itOf i a c).key.size : Nat) + ((itOf i a c).vl : Nat) : Int) = sizeI i from rfl] at HZ
  have hsz : I64 (sizeI i) := by
    unfold sizeI
    constructor <;> omega
  have hy := (findB_some hh).1
  have hck := f.ckOk hn hy
  have hbc : I64 (bytesC y.ck.1) := by
    have h1 := bytes_nonneg y.ck.1
    have h2 := bytes_le y.ck.1
    constructor <;> omega
  have HBY := hide (fun W => L.sl.bytes y.ck.1 hck.1 W)
  have H0 := (((H.box (.cells (itC (itOf i a c)) 75)).box (.cells (enC en) 35)).rin.rot).rin
  rw [World.size_alloc] at H0
  obtain ⟨mu, hmu⟩ := least_fn (RoomI L F w0 b sd n R i a c en w.heap.size (some y) (roomH sd i (some y.ent) en st))
  clear H
  go_enter Tryz.func164, Tryz.ntmps164
  go_wp2
  go_step3
  go_wp2_with (first
    | (refine wpList_load_row rfl 75 _ rfl w.heap.size rfl _ (itC (itOf i a c)) _ _ H0.rot.q.1 Tryz.underlying75 rfl (item_size _) ?_)
    | (go_at_call 163; refine (HZ.out _).mono ?_; rintro e w1 ⟨rfl, hg⟩; have H1 := H0.step hg.grown; clear hg; obtain ⟨-, k1, -, -⟩ := ent_cells (H1.entAt hy))
    | (go_at_call 171; refine (HBY.out _).mono ?_; rintro e w1b ⟨rfl, hg⟩; replace H1 := H1.step hg; clear hg))
  go_step3
  go_wp2
  go_loopw [11] (fun _ wr => ∃ m, RoomI L F w0 b sd n R i a c en w.heap.size (some y) (roomH sd i (some y.ent) en st) m wr) (fun _ wr => mu wr)
  case atStart => exact ⟨_, st, x, H1, f, hh, rfl, rfl⟩
  case round =>
    clear H1 H0 f hh hy hck HBY k1
    obtain ⟨st1, x1, H1, f1, hh1, hr1, hm1⟩ := (hmu wr hrel).1
    replace H1 := H1.drew
    clear hrel
    have HM1 := hide hm1
    have HR1 := hide hr1
    have HH1 := hide hh1
    clear hm1 hr1 hh1
    have hlR := Nat.le_of_lt (f1.lenR hn)
    have hsS := f1.smallS hn
    obtain ⟨-, c1, c2, -, -⟩ := H1.headC
    have c3 := box_key H1.rot.q.1
    rcases room_cases f1.good sd i (some y.ent) en with ⟨hf, hr⟩ | ⟨hf, ⟨hv, hr⟩ | ⟨v, z, hv, hz, hne, hsv, hc⟩⟩
    · have HF : Hid (fitsS st1.slab (sizeI i) (bytesC y.ck.1) = true) := hf
      have HR := hide hr
      clear hf hr
      go_upto_region 4 with fail
      go_region_held (fun w' => w'.cell? ⟨b, 2, none⟩ = some (.pointer (some ⟨x1.ob, 0, none⟩)) ∧ w'.cell? ⟨w.heap.size, 0, none⟩ = some (.string i.key)) (first | exact ⟨c5, c6⟩ | exact ⟨c2, c3⟩) ((go_at_call 191; refine (L.ls.victim H1.list hlR i.key hkm).mono ?_; rintro e w2 ⟨he, hL, hg⟩; subst he; have H2 := H1.step hg; clear hL hg; obtain ⟨-, c4, c5, c7, -⟩ := H2.headC; have c6 := box_key H2.rot.q.1))
      go_wp2_with (go_at_call 192; refine (L.sl.fits H2.slab hsS (sizeI i) (bytesC y.ck.1) hsz hbc).mono ?_; rintro e w3 ⟨he, hS, hg⟩; rw [HF.out] at he; subst he; have H3 := H2.step hg; clear hS hg)
      try rw [Exit.noGoto_ret]
      go_ret
      exact room_fin HR1.out HR.out H3 f1 HH1.out
    · have HF : Hid (fitsS st1.slab (sizeI i) (bytesC y.ck.1) = false) := hf
      have HR := hide hr
      have HV := hide hv
      clear hf hr hv
      go_upto_region 4 with fail
      go_region_held (fun w' => w'.cell? ⟨b, 2, none⟩ = some (.pointer (some ⟨x1.ob, 0, none⟩)) ∧ w'.cell? ⟨w.heap.size, 0, none⟩ = some (.string i.key)) (first | exact ⟨c5, c6⟩ | exact ⟨c2, c3⟩) ((go_at_call 191; refine (L.ls.victim H1.list hlR i.key hkm).mono ?_; rintro e w2 ⟨he, hL, hg⟩; rw [HV.out] at he; have he2 : e = .returned (.tuple #[.string ⟨#[]⟩, .bool false]) := he; subst he2; clear he; have H2 := H1.step hg; clear hL hg; obtain ⟨-, c4, c5, c7, -⟩ := H2.headC; have c6 := box_key H2.rot.q.1))
      go_wp2_with (go_at_call 192; refine (L.sl.fits H2.slab hsS (sizeI i) (bytesC y.ck.1) hsz hbc).mono ?_; rintro e w3 ⟨he, hS, hg⟩; rw [HF.out] at he; subst he; have H3 := H2.step hg; clear hS hg)
      try rw [Exit.noGoto_ret]
      go_ret
      exact room_fin HR1.out HR.out H3 f1 HH1.out
    · have HF : Hid (fitsS st1.slab (sizeI i) (bytesC y.ck.1) = false) := hf
      have HV := hide hv
      have HNE := hide hne
      clear hf hv hne
      cases hlz : liveI z.1 en with
      | false =>
        obtain ⟨q1, q2, q3, q4⟩ := look_dead f1 hz hlz
        have HLB := hide (show livB v en x1.E = none ∧ lookH st1 v en = dropH st1 v ∧ lookB v en x1.E = delB v x1.E from ⟨q1, q2, q3⟩)
        have HQ := hide q4
        have hr : roomH sd i (some y.ent) en st1 = roomH sd i (some y.ent) en (dropH st1 v) := by
          rcases hc with ⟨h1, _⟩ | ⟨_, h2⟩
          · rw [hlz] at h1
            cases h1
          · exact h2
        have HR := hide hr
        clear q1 q2 q3 q4 hr hc hlz
        go_upto_region 4 with fail
        go_region_held (fun w' => w'.cell? ⟨b, 2, none⟩ = some (.pointer (some ⟨x1.ob, 0, none⟩)) ∧ w'.cell? ⟨w.heap.size, 0, none⟩ = some (.string i.key)) (first | exact ⟨c5, c6⟩ | exact ⟨c2, c3⟩) ((go_at_call 191; refine (L.ls.victim H1.list hlR i.key hkm).mono ?_; rintro e w2 ⟨he, hL, hg⟩; rw [HV.out] at he; have he2 : e = .returned (.tuple #[.string v, .bool true]) := he; subst he2; clear he; have H2 := H1.step hg; clear hL hg; obtain ⟨-, c4, c5, c7, -⟩ := H2.headC; have c6 := box_key H2.rot.q.1))
        go_wp2_with (first
          | (go_at_call 192; refine (L.sl.fits H2.slab hsS (sizeI i) (bytesC y.ck.1) hsz hbc).mono ?_; rintro e w3 ⟨he, hS, hg⟩; rw [HF.out] at he; subst he; have H3 := H2.step hg; clear hS hg)
          | (refine wpList_load_row rfl 35 _ rfl (w.heap.size + 1) rfl _ (enC en) _ _ H3.rot.right.rot.q.1 Tryz.underlying35 rfl (env_size _) ?_)
          | (go_at_call 53; refine (living_in H3 f1 hn v hsv en hen).mono ?_; rw [HLB.out.1, HLB.out.2.1, HLB.out.2.2]; rintro e w4 ⟨he, x4, H4, f4, hE4⟩; have he2 : e = .returned (.pointer none) := he; subst he2; clear he))
        have N := hide (room_next hmu HM1.out H4 f4 (by rw [hE4, findB_del (fun e => HNE.out e.symm)]; exact HH1.out) (by rw [← HR1.out]; exact HR.out.symm) (by rw [hE4]; exact HQ.out))
        go_roundw
        case rel => exact N.out.1
        case measure => exact N.out.2
      | true =>
        obtain ⟨u, q1, q2, q3, q4⟩ := look_live f1 hz hlz
        have HLB := hide (show livB v en x1.E = some u ∧ lookH st1 v en = st1 ∧ lookB v en x1.E = x1.E from ⟨q1, q2, q3⟩)
        have HQ := hide q4
        clear q1 q2 q3 q4
        have hr : roomH sd i (some y.ent) en st1 = roomH sd i (some y.ent) en (dropH st1 v) := by
          rcases hc with ⟨_, h1, _⟩ | ⟨_, h2⟩
          · cases h1
          · exact h2
        have HR := hide hr
        clear hr hc hlz
        go_upto_region 4 with fail
        go_region_held (fun w' => w'.cell? ⟨b, 2, none⟩ = some (.pointer (some ⟨x1.ob, 0, none⟩)) ∧ w'.cell? ⟨w.heap.size, 0, none⟩ = some (.string i.key)) (first | exact ⟨c5, c6⟩ | exact ⟨c2, c3⟩) ((go_at_call 191; refine (L.ls.victim H1.list hlR i.key hkm).mono ?_; rintro e w2 ⟨he, hL, hg⟩; rw [HV.out] at he; have he2 : e = .returned (.tuple #[.string v, .bool true]) := he; subst he2; clear he; have H2 := H1.step hg; clear hL hg; obtain ⟨-, c4, c5, c7, -⟩ := H2.headC; have c6 := box_key H2.rot.q.1))
        go_upto_region 10 with (first
          | (go_at_call 192; refine (L.sl.fits H2.slab hsS (sizeI i) (bytesC y.ck.1) hsz hbc).mono ?_; rintro e w3 ⟨he, hS, hg⟩; rw [HF.out] at he; subst he; have H3 := H2.step hg; clear hS hg)
          | (refine wpList_load_row rfl 35 _ rfl (w.heap.size + 1) rfl _ (enC en) _ _ H3.rot.right.rot.q.1 Tryz.underlying35 rfl (env_size _) ?_)
          | (go_at_call 53; refine (living_in H3 f1 hn v hsv en hen).mono ?_; rw [HLB.out.1, HLB.out.2.1, HLB.out.2.2]; rintro e w4 ⟨he, x4, H4, f4, hE4⟩; have he2 : e = .returned (.pointer (some ⟨u.blk, 0, none⟩)) := he; subst he2; clear he))
        go_quiet (fail)
        have H5 := H4.drewN nq
        go_wp2_with (go_at_call 88; refine (drop_in H5 f4 hn v hsv (by rw [hE4]; exact HQ.out)).mono ?_; rintro e w6 ⟨⟨vv, rfl⟩, x6, H6, f6, hE6⟩)
        have N := hide (room_next hmu HM1.out H6 f6 (by rw [hE6, hE4, findB_del (fun e => HNE.out e.symm)]; exact HH1.out) (by rw [← HR1.out]; exact HR.out.symm) (by rw [hE6, hE4]; exact delB_len HQ.out))
        go_roundw
        case rel => exact N.out.1
        case measure => exact N.out.2
end
end Go.Proofs.YtkfeafmpaodagaaGreatDoor
