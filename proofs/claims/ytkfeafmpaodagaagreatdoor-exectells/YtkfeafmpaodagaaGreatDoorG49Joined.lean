/- Small functions of package exec: only, newCAS, end, view. Conditions: none. The closures of package exec, and change, which calls them. Conditions: the contracts of package shard. change of package exec, at each of its closures. Conditions: the contracts of package shard. -/
import Derived.Test.YtkfeafmpaodagaaGreatDoorG45Joined
import Derived.Test.YtkfeafmpaodagaaGreatDoorItemLibF
import Derived.Test.YtkfeafmpaodagaaGreatDoorG06Joined
namespace Go.Proofs.YtkfeafmpaodagaaGreatDoor
set_option linter.unusedVariables false
open Go.RowKit Go.Shelf Go.Sort

/-- A result that lies in a block is what is answered. -/
theorem res_ret {fn : Func} {W : World} {r : Nat} {x : Rv} {a : Option Addr} {k : Nat} {tmps : Array Value} {p : Tmp} {Post : Ending → World → Prop} (hf : fn.results = #[.cell p 40]) (hb : W.heap[r]? = some (.cells (rsC x a k) 40 (0, 0))) (h4 : tmps.getD p undef = .pointer (some ⟨r, 0, none⟩))
    (h : Post (.returned (.agg (rsC x a k))) W) : bodyPost Tryz.prog fn Post .ret { tmps := tmps, defers := [] } W :=
  bodyPost_ret (results_cell_row hf tmps W r 40 (rsC x a k) (0, 0) _ h4 hb Tryz.underlying40 rfl (res_size x a k)) rfl h
set_option maxHeartbeats 1000000 in
theorem only_any (s : Int) (w : World) : Calls Tryz.prog 52 #[.int .i64 s] w fun e w' => e = .returned (.agg (rsC (onlyR s) none 0)) ∧ w.grownBy w' none := by
  have hg := World.grownBy_alloc w (.cells (rsC (onlyR s) none 0) 40) none
  go_enter Tryz.func52, Tryz.ntmps52
  go_wp2_with (refine wpList_store_row rfl 40 _ _ rfl w.heap.size (rsC (onlyR s) none 0) rfl rfl _ (rsC zeroRv none 0) (World.alloc_heap_new w _) (res_size _ _ _) rfl (res_one _ _ _) ?_; rw [setRow_alloc])
  exact res_ret rfl (World.alloc_heap_new w _) rfl ⟨rfl, hg⟩
section
variable {w : World} {k b : Nat} {c : Cv} {va : Option Addr} {vc : Nat} {en : En} {i : It} {t : TypeId}
set_option maxHeartbeats 1000000 in
theorem newCAS_any (h : w.heap[k]? = some (.cells (tuC b c va vc en i) t (0, 0))) (hen : en.ok) : Calls Tryz.prog 134 #[.pointer (some ⟨k, 0, none⟩)] w fun e w' => e = .returned (.int .u64 (nextU en.seq)) ∧ w' = w := by
  have c1 := tu_seq h
  have h1 := hen.seq
  unfold U64 at h1
  have HN : Hid ((en.seq + 1) % 18446744073709551616 = nextU en.seq) := rfl
  go_enter Tryz.func134, Tryz.ntmps134
  go_wp2
  go_ret
  exact ⟨by rw [← HN.out]; rfl, rfl⟩
set_option maxHeartbeats 1000000 in
theorem end_any (h : w.heap[k]? = some (.cells (tuC b c va vc en i) t (0, 0))) : Calls Tryz.prog 59 #[.pointer (some ⟨k, 0, none⟩)] w fun e w' => e = .returned (.int .i64 (atW c.exp en.now)) ∧ ∃ m, w' = w.drewN m := by
  have c1 := tu_exp h
  have c2 := tu_now h
  have HA := hide (fun W => itemAtW_any c.exp en.now W)
  go_enter Tryz.func59, Tryz.ntmps59
  go_upto_region 1 with fail
  go_quiet (exact Calls.quiet_of_same (HA.out _))
  go_wp2
  go_ret
  exact ⟨rfl, nq, rfl⟩
/-- The cells of an item in its block, and the second of a turn. -/
abbrev SV (g k : Nat) (v : Iv) (a : Option Addr) (c : Nat) (now : Int) (w : World) : Prop := w.cell? ⟨g, 0, none⟩ = some (.string v.key) ∧ w.cell? ⟨g, 1, none⟩ = some (.slice a v.val.length c) ∧ w.cell? ⟨g, 2, none⟩ = some (.int .u32 v.fl) ∧ w.cell? ⟨g, 3, none⟩ = some (.int .i64 v.exp) ∧ w.cell? ⟨g, 4, none⟩ = some (.int .u64 v.cas) ∧ w.cell? ⟨g, 5, none⟩ = some (.int .i64 v.sec) ∧ w.cell? ⟨g, 6, none⟩ = some (.int .u64 v.seq) ∧ w.cell? ⟨g, 7, none⟩ = some (.bool v.st) ∧ w.cell? ⟨g, 8, none⟩ = some (.bool v.won) ∧ w.cell? ⟨g, 9, none⟩ = some (.bool v.seen) ∧ w.cell? ⟨k, 11, none⟩ = some (.int .i64 now)
theorem sv_of {g k : Nat} {v : Iv} {a : Option Addr} {cc : Nat} {b : Nat} {t1 t2 : TypeId} {x : It} (h1 : w.heap[g]? = some (.cells (itC (itOf v a cc)) t1 (0, 0))) (h2 : w.heap[k]? = some (.cells (tuC b c va vc en x) t2 (0, 0))) : SV g k v a cc en.now w := by
  obtain ⟨k0, k1, k2, k3, k4, k5, k6, k7, k8, k9⟩ := it_cells h1
  exact ⟨k0, k1, k2, k3, k4, k5, k6, k7, k8, k9, tu_now h2⟩
/-- The nine cells of a result that is not told yet. -/
theorem res_cells {r : Nat} {tt : TypeId} {x : Rv} {a : Option Addr} {kk : Nat} (h : w.heap[r]? = some (.cells (rsC x a kk) tt (0, 0))) : w.cell? ⟨r, 0, none⟩ = some (.int .i64 x.s) ∧ w.cell? ⟨r, 1, none⟩ = some (.slice a x.val.length kk) ∧ w.cell? ⟨r, 2, none⟩ = some (.int .u32 x.fl) ∧ w.cell? ⟨r, 3, none⟩ = some (.int .u64 x.cas) ∧ w.cell? ⟨r, 4, none⟩ = some (.int .i64 x.ttl) ∧ w.cell? ⟨r, 5, none⟩ = some (.int .u64 x.num) ∧ w.cell? ⟨r, 6, none⟩ = some (.bool x.st) ∧ w.cell? ⟨r, 7, none⟩ = some (.bool x.won) ∧ w.cell? ⟨r, 8, none⟩ = some (.bool x.lost) := by
  simp [World.cell?, h, rsC]
set_option maxRecDepth 100000 in
set_option maxHeartbeats 4000000 in
theorem view_any {v : Iv} {a : Option Addr} {cc : Nat} (h : w.heap[k]? = some (.cells (tuC b c va vc en (itOf v a cc)) t (0, 0))) : Calls Tryz.prog 64 #[.pointer (some ⟨k, 0, none⟩)] w fun e w' => e = .returned (.agg (rsC (viewR v en) a cc)) ∧ w.grownBy w' none := by
  have hr := tu_item h
  have H0 := ((Law.start w).box (.cells (rsC zeroRv none 0) 40)).box (.cells (itC (itOf v a cc)) 75)
  rw [World.size_alloc] at H0
  have hk : k < w.heap.size := (Array.getElem?_eq_some_iff.1 h).1
  have hK := hide h
  have hr1 : (w.alloc (.cells (rsC zeroRv none 0) 40)).rangeAt k 15 (itC (itOf v a cc)).toList := tu_item (heap_grown0 (World.grownBy_alloc w _ none) h)
  have HT := hide (fun W => itemTTL_any (itOf v a cc) en.now W)
  have hz : (w.alloc (.cells (rsC zeroRv none 0) 40)).heap.size = w.heap.size + 1 := World.size_alloc _ _
  have hn : ((w.alloc (.cells (rsC zeroRv none 0) 40)).alloc (.cells (itC zeroIt) 75)).heap[w.heap.size + 1]? = some (.cells (itC zeroIt) 75 (0, 0)) := by rw [← hz]; exact World.alloc_heap_new _ _
  have hzr : w.alloc (.cells (rsC zeroRv none 0) 40) = w.alloc (.cells #[.int .i64 0, .slice none 0 0, .int .u32 0, .int .u64 0, .int .i64 0, .int .u64 0, .bool false, .bool false, .bool false] 40) := rfl
  have hg0 := gr_trans (World.grownBy_alloc w (.cells (rsC zeroRv none 0) 40) none) (World.grownBy_alloc (w.alloc (.cells (rsC zeroRv none 0) 40)) (.cells (itC (itOf v a cc)) 75) none)
  clear h hr hz
  go_enter Tryz.func64, Tryz.ntmps64
  go_upto_region 2 with (first
    | (refine wpList_load_mid rfl 75 _ rfl k 15 rfl (itC (itOf v a cc)).toList _ hr1 Tryz.underlying75 rfl (by rw [item_size (itOf v a cc), Array.length_toList]) ?_)
    | (refine wpList_store_row rfl 75 _ _ rfl (w.heap.size + 1) (itC (itOf v a cc)) rfl rfl _ (itC zeroIt) hn (item_size _) rfl (item_one _) ?_; rw [setRow_alloc2, ← hzr]))
  clear hzr
  generalize (w.alloc (.cells (rsC zeroRv none 0) 40)).alloc (.cells (itC (itOf v a cc)) 75) = W at *
  have hKW := hide (heap_grown0 hg0 hK.out)
  have HR := hide H0.rot
  obtain ⟨g0, g1, g2, g3, g4, g5, g6, g7, g8, g9⟩ := it_cellsG (i := itOf v a cc) H0.q.1
  have gn : ∀ n os, (grow (W.drewN n) os).cell? ⟨k, 11, none⟩ = some (.int .i64 en.now) := fun n os => tu_now (heap_grow hKW.out n os)
  clear H0 hg0 hn hr1 hK
  unfold itOf at g0 g1 g2 g3 g4 g5 g6 g7 g8 g9
  dsimp only at g0 g1 g2 g3 g4 g5 g6 g7 g8 g9
  refine region_gtail 16 (by kernel_rfl) (by simp) (by kernel_rfl) ?_
  simp only [List.take_succ_cons, List.take_zero, List.drop_succ_cons, List.drop_zero]
  repeat (quiet_step (exact Calls.grown_of (HT.out _)))
  refine wpQuiet_nil ?_
  intro _ hw'
  obtain ⟨⟨nq, osq⟩, rfl⟩ := hw'
  have H2 := HR.out.step (Gd.grown ⟨nq, osq, rfl⟩)
  clear g0 g1 g2 g3 g4 g5 g6 g7 g8 g9 gn
  generalize grow (W.drewN nq) osq = W2 at *
  go_wp2_with (refine wpList_store_row rfl 40 _ _ rfl w.heap.size (rsC (viewR v en) a cc) rfl rfl _ (rsC zeroRv none 0) H2.q.1 (res_size _ _ _) rfl (res_one _ _ _) ?_; have H3 := f_law ((law_f H2).setRow (rsC (viewR v en) a cc)))
  exact res_ret rfl H3.q.1 rfl ⟨rfl, below_gr' H3.below⟩
end
end Go.Proofs.YtkfeafmpaodagaaGreatDoor

namespace Go.Proofs.YtkfeafmpaodagaaGreatDoor
set_option linter.unusedVariables false
open Go.RowKit Go.Shelf Go.Sort
variable {Sh : World → Nat → (Nat → Prop) → Nat → Nat → Hs → Prop}

section
variable {w0 w : World} {k b : Nat} {c : Cv} {va : Option Addr} {vc : Nat} {en : En} {i : Iv} {ia : Option Addr} {ic : Nat} {R : Part}
theorem tu_setExp (x : Int) : (tuC b c va vc en (itOf i ia ic)).setIfInBounds 18 (.int .i64 x) = tuC b c va vc en (itOf { i with exp := x } ia ic) := by simp [tuC, itOf]
theorem tu_setCas (x : Int) : (tuC b c va vc en (itOf i ia ic)).setIfInBounds 19 (.int .u64 x) = tuC b c va vc en (itOf { i with cas := x } ia ic) := by simp [tuC, itOf]
theorem tu_setSt (x : Bool) : (tuC b c va vc en (itOf i ia ic)).setIfInBounds 22 (.bool x) = tuC b c va vc en (itOf { i with st := x } ia ic) := by simp [tuC, itOf]
theorem tu_setWon (x : Bool) : (tuC b c va vc en (itOf i ia ic)).setIfInBounds 23 (.bool x) = tuC b c va vc en (itOf { i with won := x } ia ic) := by simp [tuC, itOf]
theorem tu_setSeen (x : Bool) : (tuC b c va vc en (itOf i ia ic)).setIfInBounds 24 (.bool x) = tuC b c va vc en (itOf { i with seen := x } ia ic) := by simp [tuC, itOf]
abbrev TnP (k b : Nat) (c : Cv) (va : Option Addr) (vc : Nat) (en : En) (i : Iv) (ia : Option Addr) (ic : Nat) : Part := tnP k b c va vc en (itOf i ia ic)
theorem Law.tuExp (H : Law w0 w ((TnP k b c va vc en i ia ic).and R)) (x : Int) : Law w0 (w.setCell ⟨k, 18, none⟩ (.int .i64 x)) ((TnP k b c va vc en { i with exp := x } ia ic).and R) := by
  have h := H.setAt 18 (.int .i64 x)
  rwa [tu_setExp] at h
theorem Law.tuCas (H : Law w0 w ((TnP k b c va vc en i ia ic).and R)) (x : Int) : Law w0 (w.setCell ⟨k, 19, none⟩ (.int .u64 x)) ((TnP k b c va vc en { i with cas := x } ia ic).and R) := by
  have h := H.setAt 19 (.int .u64 x)
  rwa [tu_setCas] at h
theorem Law.tuSt (H : Law w0 w ((TnP k b c va vc en i ia ic).and R)) (x : Bool) : Law w0 (w.setCell ⟨k, 22, none⟩ (.bool x)) ((TnP k b c va vc en { i with st := x } ia ic).and R) := by
  have h := H.setAt 22 (.bool x)
  rwa [tu_setSt] at h
theorem Law.tuWon (H : Law w0 w ((TnP k b c va vc en i ia ic).and R)) (x : Bool) : Law w0 (w.setCell ⟨k, 23, none⟩ (.bool x)) ((TnP k b c va vc en { i with won := x } ia ic).and R) := by
  have h := H.setAt 23 (.bool x)
  rwa [tu_setWon] at h
theorem Law.tuSeen (H : Law w0 w ((TnP k b c va vc en i ia ic).and R)) (x : Bool) : Law w0 (w.setCell ⟨k, 24, none⟩ (.bool x)) ((TnP k b c va vc en { i with seen := x } ia ic).and R) := by
  have h := H.setAt 24 (.bool x)
  rwa [tu_setSeen] at h
theorem Law.tuFree (H : Law w0 w ((TnP k b c va vc en i ia ic).and R)) (j : Nat) : w.frozen? ⟨k, j, none⟩ = false := frozen_of_row _ _ _ _ _ H.q.1
/-- A box that the rest holds. -/
def BoxIn (w0 : World) (R : Part) (kt : Nat) (v : Value) : Prop := ∀ W, Law w0 W R → W.cell? ⟨kt, 0, none⟩ = some v
set_option maxHeartbeats 1000000 in
theorem fSeen_any (H : Law w0 w ((TnP k b c va vc en i ia ic).and R)) : Calls Tryz.prog 63 #[.pointer (some ⟨k, 15, none⟩)] w fun e w' => (∃ v, e = .returned v) ∧ Law w0 w' ((TnP k b c va vc en { i with seen := true } ia ic).and R) := by
  have c1 := tu_iseen H.q.1
  have f1 := H.tuFree 24
  have H1 := H.tuSeen true
  go_enter Tryz.func63, Tryz.ntmps63
  go_wp2
  go_end0
  exact ⟨⟨_, rfl⟩, H1⟩
set_option maxHeartbeats 1000000 in
theorem fWon_any (H : Law w0 w ((TnP k b c va vc en i ia ic).and R)) : Calls Tryz.prog 97 #[.pointer (some ⟨k, 15, none⟩)] w fun e w' => (∃ v, e = .returned v) ∧ Law w0 w' ((TnP k b c va vc en { i with won := true } ia ic).and R) := by
  have c1 := tu_iwon H.q.1
  have f1 := H.tuFree 23
  have H1 := H.tuWon true
  go_enter Tryz.func97, Tryz.ntmps97
  go_wp2
  go_end0
  exact ⟨⟨_, rfl⟩, H1⟩
set_option maxHeartbeats 2000000 in
theorem fEnd_any (H : Law w0 w ((TnP k b c va vc en i ia ic).and R)) {kt : Nat} (hkt : BoxIn w0 R kt (.pointer (some ⟨k, 0, none⟩))) : Calls Tryz.prog 61 #[.pointer (some ⟨k, 15, none⟩), .pointer (some ⟨kt, 0, none⟩)] w fun e w' => (∃ v, e = .returned v) ∧ Law w0 w' ((TnP k b c va vc en { i with exp := atW c.exp en.now } ia ic).and R) := by
  have k1 := hkt w H.right
  go_enter Tryz.func61, Tryz.ntmps61
  go_wp2_with (go_at_call 59; refine (end_any H.q.1).mono ?_; rintro e w1 ⟨rfl, m, rfl⟩; have H1 := H.drewN m; have c1 := tu_iexp H1.q.1; have f1 := H1.tuFree 18; have H2 := H1.tuExp (atW c.exp en.now))
  go_end0
  exact ⟨⟨_, rfl⟩, H2⟩
/-- What see does to an item. -/
def seeI (c : Cv) (en : En) (i : Iv) (won lost : Bool) : Iv := { i with exp := if c.sets then atW c.exp en.now else i.exp, seen := true, won := won || lost }
set_option maxHeartbeats 4000000 in
theorem fSee_any (H : Law w0 w ((TnP k b c va vc en i ia ic).and R)) {kt kw kl : Nat} {won lost : Bool} (hkt : BoxIn w0 R kt (.pointer (some ⟨k, 0, none⟩))) (hkw : BoxIn w0 R kw (.bool won)) (hkl : BoxIn w0 R kl (.bool lost)) :
    Calls Tryz.prog 100 #[.pointer (some ⟨k, 15, none⟩), .pointer (some ⟨kt, 0, none⟩), .pointer (some ⟨kw, 0, none⟩), .pointer (some ⟨kl, 0, none⟩)] w fun e w' => (∃ v, e = .returned v) ∧ Law w0 w' ((TnP k b c va vc en (seeI c en i won lost) ia ic).and R) := by
  have k1 := hkt w H.right
  have c0 := tu_sets H.q.1
  cases hs : c.sets with
  | true =>
    rw [hs] at c0
    have HS : Hid (seeI c en i won lost = { i with exp := atW c.exp en.now, seen := true, won := won || lost }) := by show _ = _; unfold seeI; rw [hs]; rfl
    clear hs
    cases won with
    | true =>
      go_enter Tryz.func100, Tryz.ntmps100
      go_wp2_with (go_at_call 59; refine (end_any H.q.1).mono ?_; rintro e w1 ⟨rfl, m, rfl⟩; have H1 := H.drewN m; have c1 := tu_iexp H1.q.1; have f1 := H1.tuFree 18; have H2 := H1.tuExp (atW c.exp en.now); clear k1 c0; have c2 := tu_iseen H2.q.1; have f2 := H2.tuFree 24; have H3 := H2.tuSeen true; have c3 := tu_iwon H3.q.1; have f3 := H3.tuFree 23; have k3 := hkw _ H3.right; have k4 := hkl _ H3.right; have H4 := H3.tuWon true)
      go_end0
      exact ⟨⟨_, rfl⟩, by rw [HS.out]; exact H4⟩
    | false =>
      go_enter Tryz.func100, Tryz.ntmps100
      go_wp2_with (go_at_call 59; refine (end_any H.q.1).mono ?_; rintro e w1 ⟨rfl, m, rfl⟩; have H1 := H.drewN m; have c1 := tu_iexp H1.q.1; have f1 := H1.tuFree 18; have H2 := H1.tuExp (atW c.exp en.now); clear k1 c0; have c2 := tu_iseen H2.q.1; have f2 := H2.tuFree 24; have H3 := H2.tuSeen true; have c3 := tu_iwon H3.q.1; have f3 := H3.tuFree 23; have k3 := hkw _ H3.right; have k4 := hkl _ H3.right; have H4 := H3.tuWon lost)
      go_end0
      exact ⟨⟨_, rfl⟩, by rw [HS.out]; exact H4⟩
  | false =>
    rw [hs] at c0
    have HS : Hid (seeI c en i won lost = { i with seen := true, won := won || lost }) := by show _ = _; unfold seeI; rw [hs]; rfl
    clear hs
    have c2 := tu_iseen H.q.1
    have f2 := H.tuFree 24
    have H3 := H.tuSeen true
    have c3 := tu_iwon H3.q.1
    have f3 := H3.tuFree 23
    have k3 := hkw _ H3.right
    have k4 := hkl _ H3.right
    have H4 := H3.tuWon (won || lost)
    cases won with
    | true =>
      go_enter Tryz.func100, Tryz.ntmps100
      go_wp2
      go_end0
      exact ⟨⟨_, rfl⟩, by rw [HS.out]; exact H4⟩
    | false =>
      go_enter Tryz.func100, Tryz.ntmps100
      go_wp2
      go_end0
      exact ⟨⟨_, rfl⟩, by rw [HS.out]; exact H4⟩
set_option maxHeartbeats 4000000 in
theorem fStale_any (H : Law w0 w ((TnP k b c va vc en i ia ic).and R)) (hen : en.ok) {kt : Nat} (hkt : BoxIn w0 R kt (.pointer (some ⟨k, 0, none⟩))) : Calls Tryz.prog 139 #[.pointer (some ⟨k, 15, none⟩), .pointer (some ⟨kt, 0, none⟩)] w fun e w' => (∃ v, e = .returned v) ∧ Law w0 w' ((TnP k b c va vc en { i with st := true, won := false, cas := nextU en.seq, exp := if c.sets then atW c.exp en.now else i.exp } ia ic).and R) := by
  have k1 := hkt w H.right
  cases hs : c.sets with
  | true =>
    go_enter Tryz.func139, Tryz.ntmps139
    go_wp2_with (first
      | (go_at_call 134; refine (newCAS_any H.q.1 hen).mono ?_; rintro e w1 ⟨rfl, rfl⟩; have c1 := tu_ist H.q.1; have f1 := H.tuFree 22; have H1 := H.tuSt true; have c2 := tu_iwon H1.q.1; have f2 := H1.tuFree 23; have H2 := H1.tuWon false; have c3 := tu_icas H2.q.1; have f3 := H2.tuFree 19; have H3 := H2.tuCas (nextU en.seq); have k2 := hkt _ H3.right; have c4 := tu_sets H3.q.1; rw [hs] at c4; clear hs)
      | (go_at_call 59; refine (end_any H3.q.1).mono ?_; rintro e w2 ⟨rfl, m, rfl⟩; have H4 := H3.drewN m; have c5 := tu_iexp H4.q.1; have f5 := H4.tuFree 18; have H5 := H4.tuExp (atW c.exp en.now)))
    go_end0
    exact ⟨⟨_, rfl⟩, H5⟩
  | false =>
    go_enter Tryz.func139, Tryz.ntmps139
    go_wp2_with (go_at_call 134; refine (newCAS_any H.q.1 hen).mono ?_; rintro e w1 ⟨rfl, rfl⟩; have c1 := tu_ist H.q.1; have f1 := H.tuFree 22; have H1 := H.tuSt true; have c2 := tu_iwon H1.q.1; have f2 := H1.tuFree 23; have H2 := H1.tuWon false; have c3 := tu_icas H2.q.1; have f3 := H2.tuFree 19; have H3 := H2.tuCas (nextU en.seq); have k2 := hkt _ H3.right; have c4 := tu_sets H3.q.1; rw [hs] at c4; clear hs)
    go_end0
    exact ⟨⟨_, rfl⟩, H3⟩
end
end Go.Proofs.YtkfeafmpaodagaaGreatDoor

namespace Go.Proofs.YtkfeafmpaodagaaGreatDoor
set_option linter.unusedVariables false
open Go.RowKit Go.Shelf Go.Sort
variable {Sh : World → Nat → (Nat → Prop) → Nat → Nat → Hs → Prop}

section
variable {L : ShardLib Sh} {w0 w : World} {k b sd n : Nat} {own : Nat → Prop} {st : Hs} {c : Cv} {va : Option Addr} {vc : Nat} {en : En} {i : Iv} {ia : Option Addr} {ic : Nat} {R : Part}
/-- The turn's item, and its shard. -/
structure TuIt (k b : Nat) (j : Iv) (ia : Option Addr) (ic : Nat) (w : World) : Prop where
  s : w.cell? ⟨k, 0, none⟩ = some (.pointer (some ⟨b, 0, none⟩))
  c0 : w.cell? ⟨k, 15, none⟩ = some (.string j.key)
  c1 : w.cell? ⟨k, 16, none⟩ = some (.slice ia j.val.length ic)
  c2 : w.cell? ⟨k, 17, none⟩ = some (.int .u32 j.fl)
  c3 : w.cell? ⟨k, 18, none⟩ = some (.int .i64 j.exp)
  c4 : w.cell? ⟨k, 19, none⟩ = some (.int .u64 j.cas)
  c5 : w.cell? ⟨k, 20, none⟩ = some (.int .i64 j.sec)
  c6 : w.cell? ⟨k, 21, none⟩ = some (.int .u64 j.seq)
  c7 : w.cell? ⟨k, 22, none⟩ = some (.bool j.st)
  c8 : w.cell? ⟨k, 23, none⟩ = some (.bool j.won)
  c9 : w.cell? ⟨k, 24, none⟩ = some (.bool j.seen)
theorem tuIt_of {j : Iv} {t : TypeId} (h : w.heap[k]? = some (.cells (tuC b c va vc en (itOf j ia ic)) t (0, 0))) : TuIt k b j ia ic w :=
  ⟨tu_at h 0 _ rfl, tu_at h 15 _ rfl, tu_at h 16 _ rfl, tu_at h 17 _ rfl, tu_at h 18 _ rfl, tu_at h 19 _ rfl, tu_at h 20 _ rfl, tu_at h 21 _ rfl, tu_at h 22 _ rfl, tu_at h 23 _ rfl, tu_at h 24 _ rfl⟩
set_option maxRecDepth 100000 in
set_option maxHeartbeats 4000000 in
theorem chSeen_any (H : Law w0 w ((TnP k b c va vc en i ia ic).and ((shQ L b own sd n st).and R))) (hn : n ≤ 4398046511104)  {j : Iv} (hj : { i with seen := true } = j) (hok : j.ok) (hrd : Rd w0 R ia ic j.val) :
    Calls Tryz.prog 62 #[.pointer (some ⟨k, 0, none⟩), .func (.func 63) #[] #[]] w fun e w' => (∃ v, e = .returned v) ∧ ∃ own', Law w0 w' ((TnP k b c va vc en j ia ic).and ((shQ L b own' sd n (updH st j)).and R)) := by
  have HF := hide (fSeen_any H)
  rw [hj] at HF
  clear hj
  go_enter Tryz.func62, Tryz.ntmps62
  go_upto_region 1 with (go_at_call 63; refine HF.out.mono ?_; rintro e w1 ⟨⟨v1, rfl⟩, H1⟩; clear H)
  obtain ⟨q0, q1, q2, q3, q4, q5, q6, q7, q8, q9, q10⟩ := tuIt_of H1.q.1
  have HH := hide H1.rot
  clear H1
  refine region_dtail 8 (by kernel_rfl) (by simp) (by kernel_rfl) ?_
  simp only [List.take_succ_cons, List.take_zero, List.drop_succ_cons, List.drop_zero]
  repeat (quiet_step (fail))
  refine wpQuiet_nil ?_
  intro _ hw'
  obtain ⟨nq, rfl⟩ := hw'
  clear q0 q1 q2 q3 q4 q5 q6 q7 q8 q9 q10
  have H2 := HH.out.drewN nq
  generalize w1.drewN nq = w2 at *
  go_wp2_with (go_at_call 98; refine (shUpdate_is L H2 hn j ia ic hok (H2.readR hrd.right)).mono ?_; rintro e w3 ⟨rfl, own3, H3⟩)
  go_end0
  exact ⟨⟨_, rfl⟩, own3, H3.rot⟩
set_option maxRecDepth 100000 in
set_option maxHeartbeats 4000000 in
theorem chWon_any (H : Law w0 w ((TnP k b c va vc en i ia ic).and ((shQ L b own sd n st).and R))) (hn : n ≤ 4398046511104)  {j : Iv} (hj : { i with won := true } = j) (hok : j.ok) (hrd : Rd w0 R ia ic j.val) :
    Calls Tryz.prog 62 #[.pointer (some ⟨k, 0, none⟩), .func (.func 97) #[] #[]] w fun e w' => (∃ v, e = .returned v) ∧ ∃ own', Law w0 w' ((TnP k b c va vc en j ia ic).and ((shQ L b own' sd n (updH st j)).and R)) := by
  have HF := hide (fWon_any H)
  rw [hj] at HF
  clear hj
  go_enter Tryz.func62, Tryz.ntmps62
  go_upto_region 1 with (go_at_call 97; refine HF.out.mono ?_; rintro e w1 ⟨⟨v1, rfl⟩, H1⟩; clear H)
  obtain ⟨q0, q1, q2, q3, q4, q5, q6, q7, q8, q9, q10⟩ := tuIt_of H1.q.1
  have HH := hide H1.rot
  clear H1
  refine region_dtail 8 (by kernel_rfl) (by simp) (by kernel_rfl) ?_
  simp only [List.take_succ_cons, List.take_zero, List.drop_succ_cons, List.drop_zero]
  repeat (quiet_step (fail))
  refine wpQuiet_nil ?_
  intro _ hw'
  obtain ⟨nq, rfl⟩ := hw'
  clear q0 q1 q2 q3 q4 q5 q6 q7 q8 q9 q10
  have H2 := HH.out.drewN nq
  generalize w1.drewN nq = w2 at *
  go_wp2_with (go_at_call 98; refine (shUpdate_is L H2 hn j ia ic hok (H2.readR hrd.right)).mono ?_; rintro e w3 ⟨rfl, own3, H3⟩)
  go_end0
  exact ⟨⟨_, rfl⟩, own3, H3.rot⟩
set_option maxRecDepth 100000 in
set_option maxHeartbeats 4000000 in
theorem chEnd_any (H : Law w0 w ((TnP k b c va vc en i ia ic).and ((shQ L b own sd n st).and R))) (hn : n ≤ 4398046511104) {kt : Nat} (hkt : BoxIn w0 ((shQ L b own sd n st).and R) kt (.pointer (some ⟨k, 0, none⟩))) {j : Iv} (hj : { i with exp := atW c.exp en.now } = j) (hok : j.ok) (hrd : Rd w0 R ia ic j.val) :
    Calls Tryz.prog 62 #[.pointer (some ⟨k, 0, none⟩), .func (.func 61) #[] #[.pointer (some ⟨kt, 0, none⟩)]] w fun e w' => (∃ v, e = .returned v) ∧ ∃ own', Law w0 w' ((TnP k b c va vc en j ia ic).and ((shQ L b own' sd n (updH st j)).and R)) := by
  have HF := hide (fEnd_any H hkt)
  rw [hj] at HF
  clear hj
  go_enter Tryz.func62, Tryz.ntmps62
  go_upto_region 1 with (go_at_call 61; refine HF.out.mono ?_; rintro e w1 ⟨⟨v1, rfl⟩, H1⟩; clear H)
  obtain ⟨q0, q1, q2, q3, q4, q5, q6, q7, q8, q9, q10⟩ := tuIt_of H1.q.1
  have HH := hide H1.rot
  clear H1
  refine region_dtail 8 (by kernel_rfl) (by simp) (by kernel_rfl) ?_
  simp only [List.take_succ_cons, List.take_zero, List.drop_succ_cons, List.drop_zero]
  repeat (quiet_step (fail))
  refine wpQuiet_nil ?_
  intro _ hw'
  obtain ⟨nq, rfl⟩ := hw'
  clear q0 q1 q2 q3 q4 q5 q6 q7 q8 q9 q10
  have H2 := HH.out.drewN nq
  generalize w1.drewN nq = w2 at *
  go_wp2_with (go_at_call 98; refine (shUpdate_is L H2 hn j ia ic hok (H2.readR hrd.right)).mono ?_; rintro e w3 ⟨rfl, own3, H3⟩)
  go_end0
  exact ⟨⟨_, rfl⟩, own3, H3.rot⟩
set_option maxRecDepth 100000 in
set_option maxHeartbeats 4000000 in
theorem chSee_any (H : Law w0 w ((TnP k b c va vc en i ia ic).and ((shQ L b own sd n st).and R))) (hn : n ≤ 4398046511104) {kt kw kl : Nat} {won lost : Bool} (hkt : BoxIn w0 ((shQ L b own sd n st).and R) kt (.pointer (some ⟨k, 0, none⟩))) (hkw : BoxIn w0 ((shQ L b own sd n st).and R) kw (.bool won)) (hkl : BoxIn w0 ((shQ L b own sd n st).and R) kl (.bool lost)) {j : Iv} (hj : seeI c en i won lost = j) (hok : j.ok) (hrd : Rd w0 R ia ic j.val) :
    Calls Tryz.prog 62 #[.pointer (some ⟨k, 0, none⟩), .func (.func 100) #[] #[.pointer (some ⟨kt, 0, none⟩), .pointer (some ⟨kw, 0, none⟩), .pointer (some ⟨kl, 0, none⟩)]] w fun e w' => (∃ v, e = .returned v) ∧ ∃ own', Law w0 w' ((TnP k b c va vc en j ia ic).and ((shQ L b own' sd n (updH st j)).and R)) := by
  have HF := hide (fSee_any H hkt hkw hkl)
  rw [hj] at HF
  clear hj
  go_enter Tryz.func62, Tryz.ntmps62
  go_upto_region 1 with (go_at_call 100; refine HF.out.mono ?_; rintro e w1 ⟨⟨v1, rfl⟩, H1⟩; clear H)
  obtain ⟨q0, q1, q2, q3, q4, q5, q6, q7, q8, q9, q10⟩ := tuIt_of H1.q.1
  have HH := hide H1.rot
  clear H1
  refine region_dtail 8 (by kernel_rfl) (by simp) (by kernel_rfl) ?_
  simp only [List.take_succ_cons, List.take_zero, List.drop_succ_cons, List.drop_zero]
  repeat (quiet_step (fail))
  refine wpQuiet_nil ?_
  intro _ hw'
  obtain ⟨nq, rfl⟩ := hw'
  clear q0 q1 q2 q3 q4 q5 q6 q7 q8 q9 q10
  have H2 := HH.out.drewN nq
  generalize w1.drewN nq = w2 at *
  go_wp2_with (go_at_call 98; refine (shUpdate_is L H2 hn j ia ic hok (H2.readR hrd.right)).mono ?_; rintro e w3 ⟨rfl, own3, H3⟩)
  go_end0
  exact ⟨⟨_, rfl⟩, own3, H3.rot⟩
set_option maxRecDepth 100000 in
set_option maxHeartbeats 4000000 in
theorem chStale_any (H : Law w0 w ((TnP k b c va vc en i ia ic).and ((shQ L b own sd n st).and R))) (hn : n ≤ 4398046511104) (hen : en.ok) {kt : Nat} (hkt : BoxIn w0 ((shQ L b own sd n st).and R) kt (.pointer (some ⟨k, 0, none⟩))) {j : Iv} (hj : { i with st := true, won := false, cas := nextU en.seq, exp := if c.sets then atW c.exp en.now else i.exp } = j) (hok : j.ok) (hrd : Rd w0 R ia ic j.val) :
    Calls Tryz.prog 62 #[.pointer (some ⟨k, 0, none⟩), .func (.func 139) #[] #[.pointer (some ⟨kt, 0, none⟩)]] w fun e w' => (∃ v, e = .returned v) ∧ ∃ own', Law w0 w' ((TnP k b c va vc en j ia ic).and ((shQ L b own' sd n (updH st j)).and R)) := by
  have HF := hide (fStale_any H hen hkt)
  rw [hj] at HF
  clear hj
  go_enter Tryz.func62, Tryz.ntmps62
  go_upto_region 1 with (go_at_call 139; refine HF.out.mono ?_; rintro e w1 ⟨⟨v1, rfl⟩, H1⟩; clear H)
  obtain ⟨q0, q1, q2, q3, q4, q5, q6, q7, q8, q9, q10⟩ := tuIt_of H1.q.1
  have HH := hide H1.rot
  clear H1
  refine region_dtail 8 (by kernel_rfl) (by simp) (by kernel_rfl) ?_
  simp only [List.take_succ_cons, List.take_zero, List.drop_succ_cons, List.drop_zero]
  repeat (quiet_step (fail))
  refine wpQuiet_nil ?_
  intro _ hw'
  obtain ⟨nq, rfl⟩ := hw'
  clear q0 q1 q2 q3 q4 q5 q6 q7 q8 q9 q10
  have H2 := HH.out.drewN nq
  generalize w1.drewN nq = w2 at *
  go_wp2_with (go_at_call 98; refine (shUpdate_is L H2 hn j ia ic hok (H2.readR hrd.right)).mono ?_; rintro e w3 ⟨rfl, own3, H3⟩)
  go_end0
  exact ⟨⟨_, rfl⟩, own3, H3.rot⟩
end
end Go.Proofs.YtkfeafmpaodagaaGreatDoor
