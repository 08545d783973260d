/- Slices of calls of layer 11 (a number, an item, an env) that came in, and items with the bytes of their values, opened. Conditions: none. What the statements of layer 11 share, over the contracts of package shard: each call from where a statement stands. Conditions: the contracts. The chapter's example, reckoned. Conditions: none. -/
import Derived.Test.YtkfeafmpaodagaaGreatDoorG02Joined
import Derived.Test.YtkfeafmpaodagaaGreatDoorShardM
import Derived.Test.YtkfeafmpaodagaaGreatDoorG26Joined
import Derived.Test.YtkfeafmpaodagaaGreatDoorG00Joined
namespace Go.Proofs.YtkfeafmpaodagaaGreatDoor
open Go.RowKit Go.ChangeShapes Go.WideShapes Go.Deep

/-- An item as it came in: its numbers are numbers of the program. -/
structure Iv.raw (v : Iv) : Prop where
  key : v.key.size ≤ maxLen
  val : v.val.length ≤ maxLen
  exp : I64 v.exp
  sec : I64 v.sec
  seq : U64 v.seq
theorem ints_of {l : List Int} (h : ∀ z ∈ l, (Lit.int .u8 z).wf = true) : ∃ u : List UInt8, l = ints u := by
  refine ⟨l.map fun z => UInt8.ofNat z.toNat, ?_⟩
  unfold ints
  rw [List.map_map]
  conv => lhs; rw [← List.map_id l]
  apply List.map_congr_left
  intro z hz
  have h1 := u8_wf (h z hz)
  simp
  omega
theorem val_shape {H : Type} {enc : TypeId × Value → H} {w : World} {base : Nat} {spare : Nat → Bool} {held : Bool} {n : Nat} {v : Value} {z : DataW H × List MemPlace}
    (h : DataW.trod enc Tryz.prog w base spare held n 30 [v] = some z) : ∃ (a : Option Addr) (c : Nat) (u : List UInt8), v = .slice a u.length c ∧ u.length ≤ maxLen ∧ Bs w a u.length c (ints u) := by
  rcases open_ints Tryz.underlying30 Tryz.underlying5 (by kernel_rfl) h with ⟨hc, _⟩ | ⟨ad, l, c, zs, hc, _, hl, hm, hz, _, hcell, hwf⟩
  · simp at hc
    exact ⟨none, 0, [], hc, Nat.zero_le _, .inl ⟨rfl, rfl, fun _ => rfl⟩⟩
  · simp at hc
    have hzl : l ≤ zs.length := by rw [hz]; split <;> omega
    obtain ⟨u, hu⟩ := ints_of (l := zs.take l) fun z hz => hwf z (List.mem_of_mem_take hz)
    have hul : u.length = l := by rw [← ints_len, ← hu, List.length_take]; omega
    refine ⟨some ad, c, u, by rw [hul]; exact hc, by omega, ?_⟩
    rw [← hu, hul]
    by_cases h0 : l = 0
    · exact .inl ⟨h0, by rw [h0]; rfl, fun e => by cases e⟩
    · have c0 := hcell 0 (by omega)
      have hspot : ad.spot = none := by simpa [Addr.add] using World.cell?_spot c0
      obtain ⟨b, off, spot⟩ := ad
      simp only at hspot
      subst hspot
      refine .inr ⟨b, off, rfl, by omega, hl, by rw [List.length_take]; omega, fun z hz' => ?_, fun i hi => ?_, ?_⟩
      · exact u8_wf (hwf z (List.mem_of_mem_take hz'))
      · have h1 := hcell i (by omega)
        rw [add_at] at h1
        rw [h1]
        congr 2
        simp [List.getD, hi]
      · rw [add_at] at c0
        exact block_lt_of_cell c0
set_option maxRecDepth 100000 in
theorem item_shape {H : Type} {enc : TypeId × Value → H} {w : World} {base : Nat} {spare : Nat → Bool} {held : Bool} {n : Nat} {y : List Value} {z : DataW H × List MemPlace} (hl : y.length = 10)
    (h : DataW.trod enc Tryz.prog w base spare held n 75 y = some z) : ∃ (i : Iv) (a : Option Addr) (c : Nat), y = (itC (itOf i a c)).toList ∧ i.raw ∧ Bs w a i.val.length c (ints i.val) := by
  have ci : Tryz.prog.cellsOf 3 = 1 := by kernel_rfl
  have cu : Tryz.prog.cellsOf 22 = 1 := by kernel_rfl
  have c3 : Tryz.prog.cellsOf 31 = 1 := by kernel_rfl
  have cb : Tryz.prog.cellsOf 4 = 1 := by kernel_rfl
  have ct : Tryz.prog.cellsOf 9 = 1 := by kernel_rfl
  have cl : Tryz.prog.cellsOf 30 = 1 := by kernel_rfl
  obtain ⟨xs, m, _, _, _, hlen, hf⟩ := DataW.trod_struct Tryz.underlying75 h
  match y, hl with
  | [v0, v1, v2, v3, v4, v5, v6, v7, v8, v9], _ =>
    match xs, hlen with
    | [y0, y1, y2, y3, y4, y5, y6, y7, y8, y9], _ =>
      have g0 := hf 0 _ rfl
      have g1 := hf 1 _ rfl
      have g2 := hf 2 _ rfl
      have g3 := hf 3 _ rfl
      have g4 := hf 4 _ rfl
      have g5 := hf 5 _ rfl
      have g6 := hf 6 _ rfl
      have g7 := hf 7 _ rfl
      have g8 := hf 8 _ rfl
      have g9 := hf 9 _ rfl
      simp [ci, cu, c3, cb, ct, cl] at g0 g1 g2 g3 g4 g5 g6 g7 g8 g9
      obtain ⟨k0, e0, _, w0⟩ := DataW.trod_string Tryz.underlying9 g0
      obtain ⟨a1, c1, u1, e1, w1, b1⟩ := val_shape g1
      obtain ⟨k2, e2, _, w2⟩ := DataW.trod_int Tryz.underlying31 g2
      obtain ⟨k3, e3, _, w3⟩ := DataW.trod_int Tryz.underlying3 g3
      obtain ⟨k4, e4, _, w4⟩ := DataW.trod_int Tryz.underlying22 g4
      obtain ⟨k5, e5, _, w5⟩ := DataW.trod_int Tryz.underlying3 g5
      obtain ⟨k6, e6, _, w6⟩ := DataW.trod_int Tryz.underlying22 g6
      obtain ⟨k7, e7, _⟩ := DataW.trod_bool Tryz.underlying4 g7
      obtain ⟨k8, e8, _⟩ := DataW.trod_bool Tryz.underlying4 g8
      obtain ⟨k9, e9, _⟩ := DataW.trod_bool Tryz.underlying4 g9
      simp at e0 e2 e3 e4 e5 e6 e7 e8 e9
      subst e0 e1 e2 e3 e4 e5 e6 e7 e8 e9
      exact ⟨⟨k0, u1, k2, k3, k4, k5, k6, k7, k8, k9⟩, a1, c1, rfl, ⟨w0, w1, i64_wf w3, i64_wf w5, u64_wf w6⟩, b1⟩
set_option maxRecDepth 100000 in
theorem env_shape {H : Type} {enc : TypeId × Value → H} {w : World} {base : Nat} {spare : Nat → Bool} {held : Bool} {n : Nat} {y : List Value} {z : DataW H × List MemPlace} (hl : y.length = 4)
    (h : DataW.trod enc Tryz.prog w base spare held n 35 y = some z) : ∃ e : En, y = (enC e).toList ∧ e.ok := by
  have ci : Tryz.prog.cellsOf 3 = 1 := by kernel_rfl
  have cu : Tryz.prog.cellsOf 22 = 1 := by kernel_rfl
  obtain ⟨xs, m, _, _, _, hlen, hf⟩ := DataW.trod_struct Tryz.underlying35 h
  match y, hl with
  | [v0, v1, v2, v3], _ =>
    match xs, hlen with
    | [y0, y1, y2, y3], _ =>
      have g0 := hf 0 _ rfl
      have g1 := hf 1 _ rfl
      have g2 := hf 2 _ rfl
      have g3 := hf 3 _ rfl
      simp [ci, cu] at g0 g1 g2 g3
      obtain ⟨k0, e0, _, w0⟩ := DataW.trod_int Tryz.underlying3 g0
      obtain ⟨k1, e1, _, w1⟩ := DataW.trod_int Tryz.underlying22 g1
      obtain ⟨k2, e2, _, w2⟩ := DataW.trod_int Tryz.underlying3 g2
      obtain ⟨k3, e3, _, w3⟩ := DataW.trod_int Tryz.underlying22 g3
      simp at e0 e1 e2 e3
      subst e0 e1 e2 e3
      exact ⟨⟨k0, k1, k2, k3⟩, rfl, ⟨i64_wf w0, u64_wf w1, i64_wf w2, u64_wf w3⟩⟩
end Go.Proofs.YtkfeafmpaodagaaGreatDoor

namespace Go.Proofs.YtkfeafmpaodagaaGreatDoor
open Go.RowKit Go.Shelf
variable {Sh : World → Nat → (Nat → Prop) → Nat → Nat → Hs → Prop}

/-- The shard as a part. -/
def shQ (L : ShardLib Sh) (b : Nat) (own : Nat → Prop) (sd n : Nat) (st : Hs) : Part := ⟨own, fun w => Sh w b own sd n st, fun _ _ h hs => L.keep h hs⟩
section
variable {w0 w w' : World} {b sd n : Nat} {own own' : Nat → Prop} {st st' : Hs} {R : Part}
theorem Law.sh {L : ShardLib Sh} (H : Law w0 w ((shQ L b own sd n st).and R)) : Sh w b own sd n st := H.q.1
theorem Law.shGood {L : ShardLib Sh} (H : Law w0 w ((shQ L b own sd n st).and R)) : GoodH n st := L.good H.q.1
theorem Law.shTurn {L : ShardLib Sh} {m : Nat} (H : Law w0 w ((shQ L b own sd n st).and R)) (h : Sh w' b own' sd m st') (hg : Gr own w w') (hgr : Grew w own own') : Law w0 w' ((shQ L b own' sd m st').and R) :=
  H.turn (A' := shQ L b own' sd m st') h (fun k hk => L.lt h k hk) hg hgr
/-- What came in may be read. -/
theorem Law.read {L : ShardLib Sh} (H : Law w0 w ((shQ L b own sd n st).and R)) {a : Option Addr} {c : Nat} {l : List UInt8} (h : Bs w0 a l.length c (ints l)) : ReadAt w own a c l := by
  refine ⟨h.on H.below, fun k h0 hk ho => ?_⟩
  rcases h with ⟨h1, _⟩ | ⟨g, off, r⟩
  · omega
  · have := (H.lt k (.inl ho)).1
    have h2 := r.old
    rw [r.at_] at hk
    obtain rfl : g = k := Option.some.inj hk
    omega
theorem shNew_is (L : ShardLib Sh) (H : Law w0 w R) (sd : Nat) (bud most : Int) (h1 : sd < 18446744073709551616) (h2 : I64 bud) (h3 : I64 most) : Calls Tryz.prog 7 #[.int .u64 sd, .int .i64 bud, .int .i64 most] w fun e w' => ∃ b own, e = .returned (.pointer (some ⟨b, 0, none⟩)) ∧ Law w0 w' ((shQ L b own sd 0 (freshH bud most)).and R) :=
  (L.new sd bud most h1 h2 h3 w).mono fun _ _ ⟨b, own, g1, g2, g3, g4⟩ => ⟨b, own, g1, H.new (A := shQ L b own sd 0 (freshH bud most)) g4 g3 fun k hk => ⟨g2 k hk, L.lt g3 k hk⟩⟩
theorem shStoreB_is (L : ShardLib Sh) (H : Law w0 w ((shQ L b own sd n st).and R)) (hn : n ≤ 4398046511104) (hl : n ≤ 900 ∨ st.slab.bud ≤ 57600) (i : Iv) (a : Option Addr) (c : Nat) (en : En) (hi : i.ok) (hr : ReadAt w own a c i.val) (hen : en.ok) (x : Int) (t : Hs) (hx : (storeH sd st i en).1 = x) (ht : (storeH sd st i en).2 = t) :
    Calls Tryz.prog 135 #[.pointer (some ⟨b, 0, none⟩), .agg (itC (itOf i a c)), .agg (enC en)] w fun e w' => e = .returned (.int .i64 x) ∧ ∃ own', Law w0 w' ((shQ L b own' sd (n + 1) t).and R) :=
  (L.store H.sh hn hl i a c en hi hr hen).mono fun _ _ ⟨h1, own', h2, h3, h4⟩ => ⟨by rw [h1, hx], own', by rw [← ht]; exact H.shTurn h2 h3 h4⟩
theorem shStore_is (L : ShardLib Sh) (H : Law w0 w ((shQ L b own sd n st).and R)) (hn : n ≤ 900) (i : Iv) (a : Option Addr) (c : Nat) (en : En) (hi : i.ok) (hr : ReadAt w own a c i.val) (hen : en.ok) (x : Int) (t : Hs) (hx : (storeH sd st i en).1 = x) (ht : (storeH sd st i en).2 = t) :
    Calls Tryz.prog 135 #[.pointer (some ⟨b, 0, none⟩), .agg (itC (itOf i a c)), .agg (enC en)] w fun e w' => e = .returned (.int .i64 x) ∧ ∃ own', Law w0 w' ((shQ L b own' sd (n + 1) t).and R) :=
  shStoreB_is L H (Nat.le_trans hn (by decide)) (.inl hn) i a c en hi hr hen x t hx ht
theorem shUse_is (L : ShardLib Sh) (H : Law w0 w ((shQ L b own sd n st).and R)) (hn : n ≤ 4398046511104) (s : ByteArray) (hs : s.size ≤ 140737488351232) (t : Hs) (ht : useH sd st s = t) :
    Calls Tryz.prog 30 #[.pointer (some ⟨b, 0, none⟩), .string s] w fun e w' => (∃ v, e = .returned v) ∧ ∃ own', Law w0 w' ((shQ L b own' sd n t).and R) :=
  (L.use H.sh hn s hs).mono fun _ _ ⟨h1, own', h2, h3, h4⟩ => ⟨h1, own', by rw [← ht]; exact H.shTurn h2 h3 h4⟩
theorem shUpdate_is (L : ShardLib Sh) (H : Law w0 w ((shQ L b own sd n st).and R)) (hn : n ≤ 4398046511104) (i : Iv) (a : Option Addr) (c : Nat) (hi : i.ok) (hr : ReadAt w own a c i.val) :
    Calls Tryz.prog 98 #[.pointer (some ⟨b, 0, none⟩), .agg (itC (itOf i a c))] w fun e w' => e = .returned (.int .i64 (updErr st i)) ∧ ∃ own', Law w0 w' ((shQ L b own' sd n (updH st i)).and R) :=
  (L.update H.sh hn i a c hi hr).mono fun _ _ ⟨h1, own', h2, h3, h4⟩ => ⟨h1, own', H.shTurn h2 h3 h4⟩
theorem shRemove_is (L : ShardLib Sh) (H : Law w0 w ((shQ L b own sd n st).and R)) (hn : n ≤ 4398046511104) (s : ByteArray) (hs : s.size ≤ 140737488351232) (q : Bool) (hq : hasH st s = q) :
    Calls Tryz.prog 104 #[.pointer (some ⟨b, 0, none⟩), .string s] w fun e w' => e = .returned (.bool q) ∧ ∃ own', Law w0 w' ((shQ L b own' sd n (removeH st s)).and R) :=
  (L.remove H.sh hn s hs).mono fun _ _ ⟨h1, own', h2, h3, h4⟩ => ⟨by rw [h1, hq], own', H.shTurn h2 h3 h4⟩
theorem shUsed_is (L : ShardLib Sh) (H : Law w0 w ((shQ L b own sd n st).and R)) (hn : n ≤ 4398046511104) (x : Int) (hx : usedS st.slab = x) :
    Calls Tryz.prog 47 #[.pointer (some ⟨b, 0, none⟩)] w fun e w' => e = .returned (.int .i64 x) ∧ Law w0 w' ((shQ L b own sd n st).and R) :=
  (L.used H.sh hn).mono fun _ _ ⟨h1, _, h3⟩ => ⟨by rw [h1, hx], H.step h3⟩
theorem shLen_is (L : ShardLib Sh) (H : Law w0 w ((shQ L b own sd n st).and R)) (hn : n ≤ 4398046511104) (x : Int) (hx : (st.ents.length : Int) = x) :
    Calls Tryz.prog 81 #[.pointer (some ⟨b, 0, none⟩)] w fun e w' => e = .returned (.int .i64 x) ∧ Law w0 w' ((shQ L b own sd n st).and R) :=
  (L.len H.sh hn).mono fun _ _ ⟨h1, _, h3⟩ => ⟨by rw [h1, hx], H.step h3⟩
/-- A part gives some of its blocks to another one. -/
theorem Law.part {A A' B : Part} (H : Law w0 w (A.and R)) (hg : Gr A.own w w') (hq : A'.q w') (hb : B.q w') (hA : ∀ k, A'.own k → A.own k) (hB : ∀ k, B.own k → A.own k ∧ ¬ A'.own k) : Law w0 w' (A'.and (B.and R)) := by
  have hR : SameOn R.own w w' := fun k hk => hg.block k (H.lt k (.inr hk)).2 fun ha => H.q.2.2 k ha hk
  refine ⟨Gr.below H.below hg fun k hk => (H.lt k (.inl hk)).1, ⟨hq, ⟨hb, R.on w w' H.q.2.1 hR, fun k h1 h2 => H.q.2.2 k (hB k h1).1 h2⟩, fun k h1 h2 => ?_⟩, fun k hk => ?_⟩
  · rcases h2 with h2 | h2
    · exact (hB k h2).2 h1
    · exact H.q.2.2 k (hA k h1) h2
  · have h3 : k < w.heap.size ∧ w0.heap.size ≤ k := by
      rcases hk with hk | hk | hk
      · exact ⟨(H.lt k (.inl (hA k hk))).2, (H.lt k (.inl (hA k hk))).1⟩
      · exact ⟨(H.lt k (.inl (hB k hk).1)).2, (H.lt k (.inl (hB k hk).1)).1⟩
      · exact ⟨(H.lt k (.inr hk)).2, (H.lt k (.inr hk)).1⟩
    exact ⟨h3.2, Nat.lt_of_lt_of_le h3.1 hg.size⟩
/-- Texts in a row of their own. -/
def textsP (v : Value) (l : List ByteArray) : Part := rowP 0 9 1 v l.length (strV l)
theorem shDrops_is (L : ShardLib Sh) (H : Law w0 w ((shQ L b own sd n st).and R)) (l : List ByteArray) (hl : st.drops = l) :
    Calls Tryz.prog 18 #[.pointer (some ⟨b, 0, none⟩)] w fun e w' => ∃ v own', e = .returned v ∧ Law w0 w' ((shQ L b own' sd n (quietH st)).and ((textsP v l).and R)) := by
  refine (L.drops H.sh).mono ?_
  rintro e w' ⟨v, own', h1, h2, h3, h4, h5, h6⟩
  subst hl
  exact ⟨v, own', h1, H.part (A' := shQ L b own' sd n (quietH st)) (B := textsP v st.drops) h6 h3 h2 h5 h4⟩
/-- What Look answers. -/
def lookOut (st : Hs) (s : ByteArray) (en : En) (e : Ending) (P : Part → Prop) : Prop :=
  (livingH st s en = none ∧ e = .returned (.tuple #[.agg (itC zeroIt), .bool false]) ∧ P Part.emp) ∨
  ∃ y a c, livingH st s en = some y ∧ e = .returned (.tuple #[.agg (itC (itOf y.1 a c)), .bool true]) ∧ P (valP 0 a c y.1.val)
theorem shLook_is (L : ShardLib Sh) (H : Law w0 w ((shQ L b own sd n st).and R)) (hn : n ≤ 4398046511104) (s : ByteArray) (hs : s.size ≤ 140737488351232) (en : En) (hen : en.ok) :
    Calls Tryz.prog 29 #[.pointer (some ⟨b, 0, none⟩), .string s, .agg (enC en)] w fun e w' => lookOut st s en e fun B => ∃ own', Law w0 w' ((shQ L b own' sd n (lookH st s en)).and (B.and R)) := by
  refine (L.look H.sh hn s en hs hen).mono ?_
  rintro e w' ⟨own', h1, h2, h3, ⟨g1, g2⟩ | ⟨y, a, c, g1, g2, g3, g4⟩⟩
  · exact .inl ⟨g1, g2, own', (H.shTurn h1 h2 h3).in1 (fun h => ⟨trivial, h, fun _ h => h.elim⟩) fun k hk => hk.elim (fun h => h.elim) id⟩
  · refine .inr ⟨y, a, c, g1, g2, own', ?_⟩
    have H1 := H.shTurn h1 h2 h3
    refine ⟨H1.below, ⟨h1, ⟨ValAt.base g3 (Nat.zero_le _), H1.q.2.1, fun k hk hr => ?_⟩, fun k hk hr => ?_⟩, fun k hk => ?_⟩
    · have := (own_at g3 hk).1
      have := (H.lt k (.inr hr)).2
      omega
    · rcases hr with hr | hr
      · exact g4 k hr hk
      · exact H1.q.2.2 k hk hr
    · rcases hk with hk | hk | hk
      · exact H1.lt k (.inl hk)
      · exact ⟨Nat.le_trans H.below.size (own_at g3 hk).1, (own_at g3 hk).2.1⟩
      · exact H1.lt k (.inr hk)
end
end Go.Proofs.YtkfeafmpaodagaaGreatDoor

namespace Go.Proofs.YtkfeafmpaodagaaGreatDoor
open Go.RowKit Go.Shelf
variable {Sh : World → Nat → (Nat → Prop) → Nat → Nat → Hs → Prop}

def keyI (c : UInt8) : Iv := ⟨⟨#[c]⟩, [], 0, 0, 0, 0, 0, false, false, false⟩
def env1 : En := ⟨1, 0, 0, 0⟩
def aw1 : Hs := (storeH 1 (freshH 128 1) (keyI 97) env1).2
def aw2 : Hs := (storeH 1 aw1 (keyI 98) env1).2
def aw3 : Hs := (storeH 1 aw2 (keyI 99) env1).2
def aw4 : Hs := useH 1 aw3 ⟨#[99]⟩
def aw5 : Hs := useH 1 aw4 ⟨#[99]⟩
def aw6 : Hs := (storeH 1 aw5 (keyI 99) env1).2
theorem aw1_is : (storeH 1 (freshH 128 1) (keyI 97) env1).1 = 0 := by kernel_rfl
theorem aw2_is : (storeH 1 aw1 (keyI 98) env1).1 = 0 ∧ usedS aw2.slab = 128 := ⟨by kernel_rfl, by kernel_rfl⟩
theorem aw3_is : (storeH 1 aw2 (keyI 99) env1).1 = 8 := by kernel_rfl
theorem aw6_is : (storeH 1 aw5 (keyI 99) env1).1 = 0 := by kernel_rfl
theorem aw6_drops : aw6.drops = [⟨#[97]⟩] := by kernel_rfl
theorem aw6_len : aw6.ents.length = 2 := by kernel_rfl
theorem i64_lit (a : Int) (h : -9223372036854775808 ≤ a ∧ a < 9223372036854775808 := by decide) : I64 a := h
theorem u64_lit (a : Int) (h : 0 ≤ a ∧ a < 18446744073709551616 := by decide) : U64 a := h
theorem keyI_ok (c : UInt8) : (keyI c).ok := ⟨show 1 ≤ 140737488351232 by decide, show 0 ≤ 140737488351232 by decide, i64_lit 0, i64_lit 0, u64_lit 0⟩
theorem env1_ok : env1.ok := ⟨i64_lit 1, u64_lit 0, i64_lit 0, u64_lit 0⟩
theorem pairI {α : Type} (p : Int × α) (x : Int) (y : α) (h1 : p.1 = x) (h2 : p.2 = y) : p.1 = x ∧ p.2 = y := ⟨h1, h2⟩
theorem aw_ex : ∃ h1 h2 h3 h4 h5 h6 : Hs, ((storeH 1 (freshH 128 1) (keyI 97) env1).1 = 0 ∧ (storeH 1 (freshH 128 1) (keyI 97) env1).2 = h1) ∧ ((storeH 1 h1 (keyI 98) env1).1 = 0 ∧ (storeH 1 h1 (keyI 98) env1).2 = h2) ∧ usedS h2.slab = 128 ∧ ((storeH 1 h2 (keyI 99) env1).1 = 8 ∧ (storeH 1 h2 (keyI 99) env1).2 = h3) ∧
    useH 1 h3 ⟨#[99]⟩ = h4 ∧ useH 1 h4 ⟨#[99]⟩ = h5 ∧ ((storeH 1 h5 (keyI 99) env1).1 = 0 ∧ (storeH 1 h5 (keyI 99) env1).2 = h6) ∧ h6.drops = [⟨#[97]⟩] ∧ ((quietH h6).ents.length : Int) = 2 :=
  ⟨aw1, aw2, aw3, aw4, aw5, aw6, ⟨aw1_is, rfl⟩, ⟨aw2_is.1, rfl⟩, aw2_is.2, ⟨aw3_is, rfl⟩, rfl, rfl, ⟨aw6_is, rfl⟩, aw6_drops, by rw [show (quietH aw6).ents = aw6.ents from rfl, aw6_len]; rfl⟩
theorem read_none (w : World) (own : Nat → Prop) : ReadAt w own none 0 [] := ⟨.inl ⟨rfl, rfl, fun _ => rfl⟩, fun _ h => by simp at h⟩
/-- The env in its box, beside the shard. -/
theorem Law.envAt {w0 w : World} {A R : Part} {k : Nat} {en : En} (H : Law w0 w (A.and ((boxP k (.cells (enC en) 35)).and R))) : w.heap[k]? = some (.cells (enC en) 35 (0, 0)) := H.q.2.1.1
theorem below_gr' {w w' : World} (h : Below w.heap.size w w') : w.grownBy w' none := ⟨h.os, h.tape, h.output, h.size, fun k hk _ => h.block k hk⟩
end Go.Proofs.YtkfeafmpaodagaaGreatDoor
