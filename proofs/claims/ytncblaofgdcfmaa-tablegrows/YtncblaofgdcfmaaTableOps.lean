/- The contracts of package table: Put, Get, Delete. Conditions: at most 5000 texts, of at most 300 bytes each. -/
import Derived.Test.YtncblaofgdcfmaaTableMove
namespace Go.Proofs.Ytncblaofgdcfmaa
open Go.RowKit

set_option maxRecDepth 100000 in
set_option maxHeartbeats 2000000 in
theorem move_none {F : Nat → Prop} {w0 w : World} {b : Nat} {st : Ts} (h : Tab F w0 w b st) (hl : st.left = 0) :
    Calls Try.prog 24 #[.pointer (some ⟨b, 0, none⟩)] w fun e w' => e = .returned (.tuple #[]) ∧ w' = w := by
  obtain ⟨sd, vB, vE, bv, ev, B, E, L, fit, hsd, hsh⟩ := h
  obtain ⟨-, -, -, c3⟩ := head4 L.q.1
  obtain ⟨a, c, rfl⟩ := own_shape L.q.2.1.2.1.2.1.1
  rw [hl] at c3
  clear L fit hsh
  go_enter Try.func24, Try.ntmps24
  go_wp2
  (try simp only [Exit.inBlock, Exit.then])
  refine bodyPost_ret (results_none rfl _ _ _) rfl ?_
  exact ⟨rfl, rfl⟩
theorem move_any {F : Nat → Prop} {w0 w : World} {b : Nat} {st : Ts} (h : Tab F w0 w b st) (hG : GoodT st) (hS : SmallT st 5000) :
    Calls Try.prog 24 #[.pointer (some ⟨b, 0, none⟩)] w fun e w' => e = .returned (.tuple #[]) ∧ Tab F w0 w' b (stepT st) := by
  by_cases hl : st.left = 0
  · refine (move_none h hl).mono fun e w' ⟨he, hw⟩ => ⟨he, ?_⟩
    have e : stepT st = st := by unfold stepT; rw [hl]; cases st; simp at hl; rw [hl]
    rw [hw, e]
    exact h
  · obtain ⟨last, hm⟩ : ∃ m, st.left = m + 1 := ⟨st.left - 1, by omega⟩
    refine (move_some h hG hS hm).mono fun e w' ⟨he, hw⟩ => ⟨he, ?_⟩
    have e : stepT st = ⟨st.l, st.buckets, last⟩ := by unfold stepT; rw [hm]; rfl
    rw [e]
    exact hw
/-- A table whose head tells another number of texts. -/
def Tabm (F : Nat → Prop) (w0 w : World) (b : Nat) (st : Ts) (many : Nat) : Prop := ∃ sd vB vE bv ev B E, LawF F w0 w (tabP b sd many vB vE st.buckets st.left bv ev B E) ∧ Fit sd st.buckets st.left B E st.l ∧ sd < 18446744073709551616 ∧ ∀ p ∈ st.l, p.1.size ≤ 300
theorem Tabm.tab {F : Nat → Prop} {w0 w : World} {b : Nat} {st : Ts} (h : Tabm F w0 w b st st.l.length) : Tab F w0 w b st := by
  obtain ⟨sd, vB, vE, bv, ev, B, E, h1, h2, h3, h4⟩ := h
  exact ⟨sd, vB, vE, bv, ev, B, E, h1, h2, h3, h4⟩
theorem Tabm.many {F : Nat → Prop} {w0 w : World} {b m : Nat} {st : Ts} (h : Tabm F w0 w b st m) : w.cell? ⟨b, 1, none⟩ = some (.int .i64 (m : Nat)) ∧ w.frozen? ⟨b, 1, none⟩ = false ∧ ∀ m', Tabm F w0 (w.setCell ⟨b, 1, none⟩ (.int .i64 (m' : Nat))) b st m' := by
  obtain ⟨sd, vB, vE, bv, ev, B, E, h1, h2, h3, h4⟩ := h
  exact ⟨(head4 h1.q.1).2.1, frozen_of_row _ _ _ _ _ h1.q.1, fun m' => ⟨sd, vB, vE, bv, ev, B, E, h1.setAt 1 (.int .i64 (m' : Nat)), h2, h3, h4⟩⟩
theorem Tab.cells {F : Nat → Prop} {w0 w : World} {b : Nat} {st : Ts} (h : Tab F w0 w b st) : ∃ aB cB aE cE, w.cell? ⟨b, 1, none⟩ = some (.int .i64 (st.l.length : Nat)) ∧ w.cell? ⟨b, 2, none⟩ = some (.slice aB st.buckets cB) ∧ w.cell? ⟨b, 3, none⟩ = some (.slice aE st.left cE) := by
  obtain ⟨sd, vB, vE, bv, ev, B, E, L, fit, hsd, hsh⟩ := h
  obtain ⟨-, c1, c2, c3⟩ := head4 L.q.1
  obtain ⟨aB, cB, rfl⟩ := own_shape L.q.2.1.1
  obtain ⟨aE, cE, rfl⟩ := own_shape L.q.2.1.2.1.2.1.1
  exact ⟨aB, cB, aE, cE, c1, c2, c3⟩
/-- Where a text stands, or would. -/
def Spot (F : Nat → Prop) (w0 w : World) (b : Nat) (st : Ts) (k : ByteArray) (g i : Nat) : Prop :=
  ∃ n cap f l R, LawF F w0 w ((arP (.slice (some ⟨g, 0, none⟩) n cap) n f).and ((enP (f i) l).and R)) ∧ i < n ∧ l.length ≤ 5000 ∧ OneB st.l l k ∧ (∃ rest, st.l.Perm (l ++ rest)) ∧
    ∀ w' u l' L', LawF F w0 w' ((arP (.slice (some ⟨g, 0, none⟩) n cap) n (updF f i u)).and ((enP u l').and R)) → (∀ p ∈ l', p.1 = k ∨ p ∈ l) → (∀ rest, st.l.Perm (l ++ rest) → (l' ++ rest).Perm L') → (∀ p ∈ L', p.1.size ≤ 300) → Tabm F w0 w' b ⟨L', st.buckets, st.left⟩ st.l.length
theorem Spot.step {F : Nat → Prop} {w0 w w' : World} {b : Nat} {st : Ts} {k : ByteArray} {g i : Nat} (h : Spot F w0 w b st k g i) (hg : w.grownBy w' none) : Spot F w0 w' b st k g i := by
  obtain ⟨n, cap, f, l, R, L, r⟩ := h
  exact ⟨n, cap, f, l, R, L.step hg, r⟩
theorem spot_any {F : Nat → Prop} {w0 w : World} {b : Nat} {st : Ts} (h : Tab F w0 w b st) (hG : GoodT st) (hS : SmallT st 5000) (k : ByteArray) (hk : k.size ≤ 300) :
    Calls Try.prog 25 #[.pointer (some ⟨b, 0, none⟩), .string k] w fun e w' => ∃ g i, e = .returned (.pointer (some ⟨g, i, none⟩)) ∧ Spot F w0 w' b st k g i := by
  obtain ⟨sd, vB, vE, bv, ev, B, E, L, fit, hsd, hsh⟩ := h
  have h8 := hG.eight
  have hN := hS.buckets
  have hlen := hS.len
  have hpN : plN sd st.buckets k < st.buckets := Nat.mod_lt _ (by omega)
  obtain ⟨gB, cB, rfl⟩ := own_form L.q.2.1.1 (by omega)
  by_cases hp : plN sd (st.buckets / 2) k < st.left
  · obtain ⟨gE, cE, rfl⟩ := own_form L.q.2.1.2.1.2.1.1 (by omega)
    refine (place_old L.q.1 hsd h8 (by omega) k hk hp).mono fun e w' ⟨he, hg⟩ => ⟨gE, _, he, Spot.step ?_ hg⟩
    obtain ⟨rest, hr1, hr2⟩ := fit.restE hp
    refine ⟨_, cE, ev, _, _, L.toE.sel hp, hp, ?_, fit.oneE hG.rise hp, ⟨rest, hr1⟩, fun w' u l' L' H hin hperm hshort => ?_⟩
    · have := hr1.length_eq
      simp at this
      omega
    · refine ⟨sd, _, _, bv, _, B, _, H.unsel.fromE, fit.setE (fun p hpl => ?_) ((hr2 l').trans (hperm rest hr1)), hsd, hshort⟩
      rcases hin p hpl with rfl | h
      · rfl
      · exact fit.inE _ hp p h
  · have hp' : st.left ≤ plN sd (st.buckets / 2) k := by omega
    obtain ⟨aE, cE, rfl⟩ := own_shape L.q.2.1.2.1.2.1.1
    refine (place_new L.q.1 hsd h8 (by omega) k hk hp').mono fun e w' ⟨he, hg⟩ => ⟨gB, _, he, Spot.step ?_ hg⟩
    obtain ⟨rest, hr1, hr2⟩ := fit.restB hpN
    refine ⟨_, cB, bv, _, _, L.rot.rin.sel hpN, hpN, ?_, fit.oneB hG.rise hp', ⟨rest, hr1⟩, fun w' u l' L' H hin hperm hshort => ?_⟩
    · have := hr1.length_eq
      simp at this
      omega
    · refine ⟨sd, _, _, _, ev, _, E, H.unsel.rin.rot, fit.setB (fun p hpl => ?_) ((hr2 l').trans (hperm rest hr1)), hsd, hshort⟩
      rcases hin p hpl with rfl | h
      · exact ⟨rfl, hp'⟩
      · exact fit.inB _ hpN p h
theorem spot_get {F : Nat → Prop} {w0 w : World} {b : Nat} {st : Ts} {k : ByteArray} {g i : Nat} (h : Spot F w0 w b st k g i) (hsh : ∀ p ∈ st.l, p.1.size ≤ 300) :
    Calls Try.prog 30 #[.pointer (some ⟨g, i, none⟩), .string k] w fun e w' => e = .returned (.tuple #[.int .i64 ((getL k st.l).getD 0), .bool (hasT st k)]) ∧ Tabm F w0 w' b st st.l.length := by
  obtain ⟨n, cap, f, l, R, L, hi, hl, one, ⟨rest, hr⟩, back⟩ := h
  obtain ⟨e1, e2⟩ := oneB_get one hr
  refine (bget_any L.q.2.1.1 (by omega) k g i (ar_cell L.q.1 hi).1).mono fun e w' ⟨he, hg⟩ => ⟨?_, ?_⟩
  · rw [he, e1, e2]
    rfl
  · have := back w' (f i) l st.l (by rw [updF_self]; exact L.step hg) (fun p hp => .inr hp) (fun rest h => h.symm) hsh
    exact this
theorem spot_put {F : Nat → Prop} {w0 w : World} {b : Nat} {st : Ts} {k : ByteArray} {g i : Nat} (h : Spot F w0 w b st k g i) (hsh : ∀ p ∈ st.l, p.1.size ≤ 300) (hk : k.size ≤ 300) (v : Int) :
    (Calls Try.prog 26 #[.pointer (some ⟨g, i, none⟩), .string k, .int .i64 v] w fun e w' => e = .returned (.bool (!hasT st k)) ∧ Tabm F w0 w' b ⟨putL k v st.l, st.buckets, st.left⟩ st.l.length) ∧ (putL k v st.l).length = st.l.length + (if hasT st k then 0 else 1) := by
  obtain ⟨n, cap, f, l, R, L, hi, hl, one, ⟨rest, hr⟩, back⟩ := h
  obtain ⟨e1, e2⟩ := oneB_get one hr
  obtain ⟨p1, p2⟩ := oneB_put one v hr
  refine ⟨(bput_any L hi (by omega) k v).mono fun e w' ⟨he, u, H⟩ => ⟨?_, ?_⟩, ?_⟩
  · rw [he, e2]
    rfl
  · exact back w' u _ _ H (fun p hp => mem_bput hp) (fun rest h => (oneB_put one v h).1) (fun p hp => by
      rcases (mem_putL one.rise).1 hp with rfl | ⟨h, _⟩
      · exact hk
      · exact hsh p h)
  · rw [p2, e2]
    rfl
theorem spot_take {F : Nat → Prop} {w0 w : World} {b : Nat} {st : Ts} {k : ByteArray} {g i : Nat} (h : Spot F w0 w b st k g i) (hsh : ∀ p ∈ st.l, p.1.size ≤ 300) :
    (Calls Try.prog 31 #[.pointer (some ⟨g, i, none⟩), .string k] w fun e w' => e = .returned (.bool (hasT st k)) ∧ Tabm F w0 w' b ⟨delL k st.l, st.buckets, st.left⟩ st.l.length) ∧ st.l.length = (delL k st.l).length + (if hasT st k then 1 else 0) := by
  obtain ⟨n, cap, f, l, R, L, hi, hl, one, ⟨rest, hr⟩, back⟩ := h
  obtain ⟨e1, e2⟩ := oneB_get one hr
  obtain ⟨p1, p2⟩ := oneB_del one hr
  refine ⟨(btake_any L hi (by omega) k).mono fun e w' ⟨he, u, H⟩ => ⟨?_, ?_⟩, ?_⟩
  · rw [he, e2]
    rfl
  · exact back w' u _ _ H (fun p hp => .inr (mem_bdel hp)) (fun rest h => (oneB_del one h).1) (fun p hp => hsh p (List.mem_filter.1 hp).1)
  · rw [e2] at p2
    exact p2
theorem Tab.short {F : Nat → Prop} {w0 w : World} {b : Nat} {st : Ts} (h : Tab F w0 w b st) : ∀ p ∈ st.l, p.1.size ≤ 300 := by
  obtain ⟨sd, vB, vE, bv, ev, B, E, L, fit, hsd, hsh⟩ := h
  exact hsh
section
variable {w : World} {b : Nat} {own : Nat → Prop} {st : Ts}
theorem Tb0.good (h : Tb0 w b own st) : GoodT st := by
  obtain ⟨_, _, _, _, _, _, _, _, _, _, _, _, _, G⟩ := h
  exact G
set_option maxRecDepth 100000 in
set_option maxHeartbeats 2000000 in
theorem tget_any (h : Tb0 w b own st) (hS : SmallT st 5000) (s : ByteArray) (hs : s.size ≤ 300) : Calls Try.prog 14 #[.pointer (some ⟨b, 0, none⟩), .string s] w fun e w' => e = .returned (.tuple #[.int .i64 ((getL s st.l).getD 0), .bool (hasT st s)]) ∧ ∃ own', Tb0 w' b own' (stepT st) ∧ Gr own w w' ∧ Grew w own own' := by
  have hG := h.good
  have hG1 := good_step hG
  have hS1 := smallT_step hS
  have HM := hide (move_any h.tab hG hS)
  have HP := hide (fun W (t : Tab own w W b (stepT st)) => spot_any t hG1 hS1 s hs)
  have HQ := hide (fun W g i (t : Spot own w W b (stepT st) s g i) => spot_get t h.tab.short)
  have HG := hide hG1
  clear h hG hG1 hS hS1
  go_enter Try.func14, Try.ntmps14
  go_wp2_with (first
    | (go_at_call 24; refine HM.out.mono ?_; rintro e w1 ⟨rfl, t1⟩; replace t1 := hide t1)
    | (go_at_call 25; refine (HP.out _ t1.out).mono ?_; rintro e w2 ⟨g, i, rfl, t2⟩; replace t2 := hide t2)
    | (go_at_call 30; refine (HQ.out _ _ _ t2.out).mono ?_; rintro e w3 ⟨rfl, t3⟩; replace t3 := hide t3))
  go_ret2
  exact ⟨rfl, t3.out.tab.done HG.out⟩
set_option maxRecDepth 100000 in
set_option maxHeartbeats 2000000 in
theorem tdel_any (h : Tb0 w b own st) (hS : SmallT st 5000) (s : ByteArray) (hs : s.size ≤ 300) : Calls Try.prog 16 #[.pointer (some ⟨b, 0, none⟩), .string s] w fun e w' => e = .returned (.bool (hasT st s)) ∧ ∃ own', Tb0 w' b own' (delT st s) ∧ Gr own w w' ∧ Grew w own own' := by
  have hG := h.good
  have hG1 := good_step hG
  have hS1 := smallT_step hS
  have HM := hide (move_any h.tab hG hS)
  have HP := hide (fun W (t : Tab own w W b (stepT st)) => spot_any t hG1 hS1 s hs)
  have HQ := hide (fun W g i (t : Spot own w W b (stepT st) s g i) => spot_take t h.tab.short)
  have HG := hide (good_del hG s)
  have hlen := hS.len
  have HE : Hid (delT st s = ⟨delL s st.l, st.buckets, st.left - 1⟩) := rfl
  cases hh : hasT st s with
  | true =>
    have hh1 : hasT (stepT st) s = true := hh
    rw [hh1] at HQ
    clear h hG hG1 hS hS1 hh hh1
    go_enter Try.func16, Try.ntmps16
    go_wp2_with (first
      | (go_at_call 24; refine HM.out.mono ?_; rintro e w1 ⟨rfl, t1⟩; replace t1 := hide t1)
      | (go_at_call 25; refine (HP.out _ t1.out).mono ?_; rintro e w2 ⟨g, i, rfl, t2⟩; replace t2 := hide t2)
      | (go_at_call 31; obtain ⟨q1, q2⟩ := HQ.out _ _ _ t2.out; refine q1.mono ?_; rintro e w3 ⟨rfl, t3⟩; obtain ⟨m1, m2, m3⟩ := t3.many; have q3 : (stepT st).l.length = (delL s st.l).length + 1 := q2; rw [q3] at m1; replace m3 := hide (m3 (delL s st.l).length); obtain ⟨d, hd⟩ : ∃ d, (delL s st.l).length = d := ⟨_, rfl⟩; have hd5 : d < 5001 := (by have : st.l.length ≤ 5000 := hlen; have q4 : st.l.length = (delL s st.l).length + 1 := q2; omega); rw [hd] at m1 m3; have e1 : wrap64 ((d : Int) + 1 - 1) = (d : Int) := (by unfold wrap64; omega); have e2 : wrap64 (((d + 1 : Nat) : Int) - 1) = (d : Int) := (by unfold wrap64; omega); clear q1 q2 q3 t3))
    go_ret
    refine ⟨rfl, ?_⟩
    rw [← hd] at m3
    rw [HE.out, ← hd]
    rw [HE.out] at HG
    exact (Tabm.tab m3.out).done HG.out
  | false =>
    have hh1 : hasT (stepT st) s = false := hh
    rw [hh1] at HQ
    clear h hG hG1 hS hS1 hh hh1
    go_enter Try.func16, Try.ntmps16
    go_wp2_with (first
      | (go_at_call 24; refine HM.out.mono ?_; rintro e w1 ⟨rfl, t1⟩; replace t1 := hide t1)
      | (go_at_call 25; refine (HP.out _ t1.out).mono ?_; rintro e w2 ⟨g, i, rfl, t2⟩; replace t2 := hide t2)
      | (go_at_call 31; obtain ⟨q1, q2⟩ := HQ.out _ _ _ t2.out; refine q1.mono ?_; rintro e w3 ⟨rfl, t3⟩; have q3 : (stepT st).l.length = (delL s st.l).length := q2; rw [q3] at t3; replace t3 := hide t3; clear q1 q2 q3))
    go_ret
    refine ⟨rfl, ?_⟩
    rw [HE.out]
    rw [HE.out] at HG
    exact (Tabm.tab t3.out).done HG.out
end
end Go.Proofs.Ytncblaofgdcfmaa
