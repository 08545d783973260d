/- What package table does in one bucket: where a text stands. Conditions: at most 100000 entries. What package table does in one bucket: get and put. Conditions: at most 100000 entries. What package table does in one bucket: take, over slices.Delete. Conditions: at most 50000 entries. -/
import Derived.Test.YtkfeafmpaodagaaGreatDoorG19Joined
import Derived.WalkKit
import Derived.Laws.CopyRow
import Derived.Deep.RegionHeldLaw
import Derived.RegionTactic
import Derived.Deep.CutBlock
import Derived.Deep.CutRange
import Derived.Deep.QuietTactic
import Derived.BigQuiet
namespace Go.Proofs.YtkfeafmpaodagaaGreatDoor
open Go.RowKit

theorem strB_ne {x y : ByteArray} (h : x ≠ y) : (x.toList == y.toList) = false := beq_eq_false_iff_ne.2 fun e => h (by
  rw [ByteArray.toList_eq, ByteArray.toList_eq] at e
  exact ByteArray.ext (Array.toList_inj.1 e))
theorem cell_grown0 {w w' : World} {k i : Nat} {v : Value} (hg : w.grownBy w' none) (h : w.cell? ⟨k, i, none⟩ = some v) : w'.cell? ⟨k, i, none⟩ = some v := by
  by_cases hk : k < w.heap.size
  · have e := hg.block k hk (by simp)
    unfold World.cell? at h ⊢
    rw [e]
    exact h
  · unfold World.cell? at h
    rw [Array.getElem?_eq_none (Nat.le_of_not_lt hk)] at h
    cases h
set_option maxHeartbeats 1000000 in
theorem alike_yes (k : ByteArray) (x : Int) (bx : Nat) (W : World) (hc : W.cell? ⟨bx, 0, none⟩ = some (.string k)) : Calls Tryz.prog 189 #[.agg #[.string k, .pointer (some ⟨Int.toNat x, 0, none⟩)], .pointer (some ⟨bx, 0, none⟩)] W fun e w' => e = .returned (.bool true) ∧ W.grownBy w' none := by
  have hg := World.grownBy_alloc W (.cells #[.string k, .pointer (some ⟨Int.toNat x, 0, none⟩)] 184) none
  have hc2 := cell_grown0 hg hc
  go_enter Tryz.func189, Tryz.ntmps189
  go_wp2
  go_ret
  exact ⟨rfl, hg⟩
set_option maxHeartbeats 1000000 in
theorem alike_no (a k : ByteArray) (x : Int) (hne : a ≠ k) (bx : Nat) (W : World) (hc : W.cell? ⟨bx, 0, none⟩ = some (.string k)) : Calls Tryz.prog 189 #[.agg #[.string a, .pointer (some ⟨Int.toNat x, 0, none⟩)], .pointer (some ⟨bx, 0, none⟩)] W fun e w' => e = .returned (.bool false) ∧ W.grownBy w' none := by
  have hg := World.grownBy_alloc W (.cells #[.string a, .pointer (some ⟨Int.toNat x, 0, none⟩)] 184) none
  have hc2 := cell_grown0 hg hc
  have hs := strB_ne hne
  go_enter Tryz.func189, Tryz.ntmps189
  go_wp2
  go_ret
  exact ⟨rfl, hg⟩
theorem row_grown {w w' : World} {e : TypeId} {size n : Nat} {v : Value} {xs : List Value} (h : w.ownsRow 0 e size v n xs) (hg : w.grownBy w' none) : w'.ownsRow 0 e size v n xs := own_same h fun k hk => hg.block k (own_at h hk).2.1 (by simp)
set_option maxRecDepth 100000 in
set_option maxHeartbeats 2000000 in
theorem idx_hit {w : World} {v : Value} {pre post : List Kv} {k : ByteArray} {x : Int} (hv : rowE w v (pre ++ (k, x) :: post)) (hn : (pre ++ (k, x) :: post).length ≤ 100000) (hpre : ∀ p ∈ pre, p.1 ≠ k) (bx : Nat) (hb : w.cell? ⟨bx, 0, none⟩ = some (.string k)) :
    Calls Tryz.prog 188 #[v, .func (.func 189) #[] #[.pointer (some ⟨bx, 0, none⟩)]] w fun e w' => e = .returned (.int .i64 (pre.length : Nat)) ∧ w.grownBy w' none := by
  obtain ⟨pa, cap, rfl⟩ := own_shape hv
  obtain ⟨n, hln⟩ : ∃ n, (pre ++ (k, x) :: post).length = n := ⟨_, rfl⟩
  obtain ⟨m, hlm⟩ : ∃ m, pre.length = m := ⟨_, rfl⟩
  have hmn : m < n := by rw [← hln, ← hlm, List.length_append, List.length_cons]; omega
  unfold rowE at hv
  rw [hln] at hn hv ⊢
  rw [hlm]
  have HV : Hid (w.ownsRow 0 184 2 (.slice pa n cap) n (enV (pre ++ (k, x) :: post))) := hv
  have hN := hide hln
  have hM := hide hlm
  clear hv hln hlm
  go_enter Tryz.func188, Tryz.ntmps188
  go_wp2
  go_loopw [5, 8] (fun _ i wr => ∃ j : Nat, j ≤ m ∧ i = .int .i64 j ∧ Hid (w.grownBy wr none)) (fun _ i _ => n - (intOf i).toNat)
  case atStart => exact ⟨0, Nat.zero_le _, rfl, gr_refl _ _⟩
  case round =>
    obtain ⟨j, hj, rfl, HG⟩ := hrel
    have hji : (j : Int) < (n : Int) := by omega
    have hbw := cell_grown0 HG.out hb
    by_cases hlt : j < m
    · have hp : (pre ++ (k, x) :: post)[j]? = some (pre[j]'(by rw [hM.out]; exact hlt)) := by rw [List.getElem?_append_left (by rw [hM.out]; exact hlt)]; exact List.getElem?_eq_getElem _
      have hne := hpre _ (List.getElem_mem (by rw [hM.out]; exact hlt))
      obtain ⟨g, rfl, c1, c2⟩ := entry_at (row_grown HV.out HG.out) hp
      generalize pre[j]'(by rw [hM.out]; exact hlt) = p at *
      obtain ⟨a, y⟩ := p
      have HA := hide (fun W (h : W.cell? ⟨bx, 0, none⟩ = some (.string k)) => alike_no a k y hne bx W h)
      clear hp hne
      go_wp2_with (go_at_call 189; refine (HA.out _ hbw).mono ?_; rintro e w1 ⟨rfl, hg1⟩)
      go_roundw
      case rel => exact ⟨j + 1, hlt, by go_num, hide (gr_trans HG.out hg1)⟩
      case measure => simp [intOf]; omega
    · obtain rfl : j = m := by omega
      have hp : (pre ++ (k, x) :: post)[j]? = some (k, x) := by rw [List.getElem?_append_right (by rw [hM.out]; exact Nat.le_refl _), hM.out]; simp
      obtain ⟨g, rfl, c1, c2⟩ := entry_at (row_grown HV.out HG.out) hp
      have HA := hide (fun W (h : W.cell? ⟨bx, 0, none⟩ = some (.string k)) => alike_yes k x bx W h)
      clear hp hlt
      go_wp2_with (go_at_call 189; refine (HA.out _ hbw).mono ?_; rintro e w1 ⟨rfl, hg1⟩)
      go_ret
      exact ⟨rfl, gr_trans HG.out hg1⟩
set_option maxRecDepth 100000 in
set_option maxHeartbeats 2000000 in
theorem idx_miss {w : World} {v : Value} {l : List Kv} {k : ByteArray} (hv : rowE w v l) (hn : l.length ≤ 100000) (hpre : ∀ p ∈ l, p.1 ≠ k) (bx : Nat) (hb : w.cell? ⟨bx, 0, none⟩ = some (.string k)) :
    Calls Tryz.prog 188 #[v, .func (.func 189) #[] #[.pointer (some ⟨bx, 0, none⟩)]] w fun e w' => e = .returned (.int .i64 (-1)) ∧ w.grownBy w' none := by
  obtain ⟨pa, cap, rfl⟩ := own_shape hv
  obtain ⟨n, hln⟩ : ∃ n, l.length = n := ⟨_, rfl⟩
  unfold rowE at hv
  rw [hln] at hn hv ⊢
  have HV : Hid (w.ownsRow 0 184 2 (.slice pa n cap) n (enV l)) := hv
  have hN := hide hln
  clear hv hln
  go_enter Tryz.func188, Tryz.ntmps188
  go_wp2
  go_loopw [5, 8] (fun _ i wr => ∃ j : Nat, j ≤ n ∧ i = .int .i64 j ∧ Hid (w.grownBy wr none)) (fun _ i _ => n - (intOf i).toNat)
  case atStart => exact ⟨0, Nat.zero_le _, rfl, gr_refl _ _⟩
  case round =>
    obtain ⟨j, hj, rfl, HG⟩ := hrel
    have hbw := cell_grown0 HG.out hb
    by_cases hlt : j < n
    · have hji : (j : Int) < (n : Int) := by omega
      have hp : l[j]? = some (l[j]'(by rw [hN.out]; exact hlt)) := List.getElem?_eq_getElem _
      have hne := hpre _ (List.getElem_mem (by rw [hN.out]; exact hlt))
      obtain ⟨g, rfl, c1, c2⟩ := entry_at (row_grown HV.out HG.out) hp
      generalize l[j]'(by rw [hN.out]; exact hlt) = p at *
      obtain ⟨a, y⟩ := p
      have HA := hide (fun W (h : W.cell? ⟨bx, 0, none⟩ = some (.string k)) => alike_no a k y hne bx W h)
      clear hp hne
      go_wp2_with (go_at_call 189; refine (HA.out _ hbw).mono ?_; rintro e w1 ⟨rfl, hg1⟩)
      go_roundw
      case rel => exact ⟨j + 1, hlt, by go_num, hide (gr_trans HG.out hg1)⟩
      case measure => simp [intOf]; omega
    · have hji : ¬ (j : Int) < (n : Int) := by omega
      clear hlt
      go_wp2
      go_ret
      exact ⟨rfl, HG.out⟩
set_option maxRecDepth 100000 in
set_option maxHeartbeats 1000000 in
theorem find_hit {w : World} {v : Value} {pre post : List Kv} {k : ByteArray} {x : Int} (hv : rowE w v (pre ++ (k, x) :: post)) (hn : (pre ++ (k, x) :: post).length ≤ 100000) (hpre : ∀ p ∈ pre, p.1 ≠ k) (g i : Nat) (hc : w.cell? ⟨g, i, none⟩ = some v) :
    Calls Tryz.prog 157 #[.pointer (some ⟨g, i, none⟩), .string k] w fun e w' => e = .returned (.int .i64 (pre.length : Nat)) ∧ w.grownBy w' none := by
  have hg := World.grownBy_alloc w (.cells #[.string k] 9) none
  have hc2 := cell_grown0 hg hc
  have HA := hide (idx_hit (row_grown hv hg) hn hpre w.heap.size (by simp))
  obtain ⟨pa, cap, rfl⟩ := own_shape hv
  clear hv hn hpre
  generalize (pre ++ (k, x) :: post).length = n at *
  go_enter Tryz.func157, Tryz.ntmps157
  go_wp2_with (go_at_call 188; refine HA.out.mono ?_; rintro e w1 ⟨rfl, hg1⟩)
  go_ret
  exact ⟨rfl, gr_trans hg hg1⟩
set_option maxRecDepth 100000 in
set_option maxHeartbeats 1000000 in
theorem find_miss {w : World} {v : Value} {l : List Kv} {k : ByteArray} (hv : rowE w v l) (hn : l.length ≤ 100000) (hpre : ∀ p ∈ l, p.1 ≠ k) (g i : Nat) (hc : w.cell? ⟨g, i, none⟩ = some v) :
    Calls Tryz.prog 157 #[.pointer (some ⟨g, i, none⟩), .string k] w fun e w' => e = .returned (.int .i64 (-1)) ∧ w.grownBy w' none := by
  have hg := World.grownBy_alloc w (.cells #[.string k] 9) none
  have hc2 := cell_grown0 hg hc
  have HA := hide (idx_miss (row_grown hv hg) hn hpre w.heap.size (by simp))
  obtain ⟨pa, cap, rfl⟩ := own_shape hv
  clear hv hn
  go_enter Tryz.func157, Tryz.ntmps157
  go_wp2_with (go_at_call 188; refine HA.out.mono ?_; rintro e w1 ⟨rfl, hg1⟩)
  go_ret
  exact ⟨rfl, gr_trans hg hg1⟩
end Go.Proofs.YtkfeafmpaodagaaGreatDoor

namespace Go.Proofs.YtkfeafmpaodagaaGreatDoor
open Go.RowKit

theorem getL_hit {k : ByteArray} {x : Int} {pre post : List Kv} (h : ∀ p ∈ pre, p.1 ≠ k) : getL k (pre ++ (k, x) :: post) = some x := by
  unfold getL
  rw [List.find?_append, List.find?_eq_none.2 fun p hp => by simpa using h p hp]
  simp
theorem at_mid (pre : List Kv) (p : Kv) (post : List Kv) : (pre ++ p :: post)[pre.length]? = some p := by simp
set_option maxRecDepth 100000 in
set_option maxHeartbeats 2000000 in
theorem bget_any {w : World} {v : Value} {l : List Kv} (hv : rowE w v l) (hn : l.length ≤ 100000) (k : ByteArray) (g i : Nat) (hc : w.cell? ⟨g, i, none⟩ = some v) :
    Calls Tryz.prog 122 #[.pointer (some ⟨g, i, none⟩), .string k] w fun e w' => e = .returned (.tuple #[ptrO (getL k l), .bool (bhas k l)]) ∧ w.grownBy w' none := by
  rcases b_cases k l with ⟨pre, x, post, rfl, hpre⟩ | hno
  · have HF := hide (find_hit hv hn hpre g i hc)
    have HR : Hid (Value.tuple #[ptrO (getL k (pre ++ (k, x) :: post)), .bool (bhas k (pre ++ (k, x) :: post))] = .tuple #[.pointer (some ⟨Int.toNat x, 0, none⟩), .bool true]) := by
      show _ = _
      rw [getL_hit hpre, bhas_hit]
      rfl
    rw [HR.out]
    have hmid := at_mid pre (k, x) post
    have hmn : pre.length < (pre ++ (k, x) :: post).length := by simp
    have HV := hide hv
    obtain ⟨pa, cap, rfl⟩ := own_shape hv
    unfold rowE at HV
    clear hv hpre HR
    generalize pre ++ (k, x) :: post = l at *
    generalize pre.length = m at *
    generalize l.length = n at *
    have hmi : (m : Int) < (n : Int) := by omega
    have hm0 : ¬ (m : Int) < 0 := by omega
    go_enter Tryz.func122, Tryz.ntmps122
    go_wp2_with (go_at_call 157; refine HF.out.mono ?_; rintro e w1 ⟨rfl, hg1⟩; have hc1 := cell_grown0 hg1 hc; obtain ⟨ga, rfl, d1, d2⟩ := entry_at (row_grown HV.out hg1) hmid)
    go_ret2
    exact ⟨rfl, hg1⟩
  · have HF := hide (find_miss hv hn hno g i hc)
    have HR : Hid (Value.tuple #[ptrO (getL k l), .bool (bhas k l)] = .tuple #[.pointer none, .bool false]) := by
      show _ = _
      rw [get_none hno, bhas_miss hno]
      rfl
    rw [HR.out]
    clear hv hno HR
    go_enter Tryz.func122, Tryz.ntmps122
    go_wp2_with (go_at_call 157; refine HF.out.mono ?_; rintro e w1 ⟨rfl, hg1⟩)
    go_ret2
    exact ⟨rfl, hg1⟩
theorem enV_set (pre : List Kv) (k : ByteArray) (x y : Int) (post : List Kv) : (enV (pre ++ (k, x) :: post)).set (pre.length * 2 + 1) (.pointer (some ⟨Int.toNat y, 0, none⟩)) = enV (pre ++ (k, y) :: post) := by
  have e : ∀ z : Int, enV (pre ++ (k, z) :: post) = enV pre ++ (.string k :: .pointer (some ⟨Int.toNat z, 0, none⟩) :: enV post) := fun z => by rw [enV_app]; rfl
  rw [e, e, List.set_append_right _ _ (by rw [enV_len]; omega), enV_len, show pre.length * 2 + 1 - pre.length * 2 = 1 by omega]
  rfl
section
variable {F : Nat → Prop} {w0 w w' w1 : World} {R : Part} {g n cap i : Nat} {f : Nat → Value} {l : List Kv}
/-- A bucket of a row of buckets is stored anew. -/
theorem LawF.bkSet {B : Part} (H : LawF F w0 w ((arP (.slice (some ⟨g, 0, none⟩) n cap) n f).and (B.and R))) (u : Value) : LawF F w0 (w.setCell ⟨g, i, none⟩ u) ((arP (.slice (some ⟨g, 0, none⟩) n cap) n (updF f i u)).and (B.and R)) := H.arSet u
end
set_option maxRecDepth 100000 in
set_option maxHeartbeats 2000000 in
theorem bput_any {F : Nat → Prop} {w0 w : World} {R : Part} {g n cap i : Nat} {f : Nat → Value} {l : List Kv} (H : LawF F w0 w ((arP (.slice (some ⟨g, 0, none⟩) n cap) n f).and ((enP (f i) l).and R))) (hi : i < n) (hn : l.length ≤ 50000) (k : ByteArray) (y : Int) :
    Calls Tryz.prog 214 #[.pointer (some ⟨g, i, none⟩), .string k, .pointer (some ⟨Int.toNat y, 0, none⟩)] w fun e w' => e = .returned (.bool (!bhas k l)) ∧ ∃ u, LawF F w0 w' ((arP (.slice (some ⟨g, 0, none⟩) n cap) n (updF f i u)).and ((enP u (bput k y l)).and R)) := by
  obtain ⟨hc, -⟩ := ar_cell H.q.1 hi
  have hv : rowE w (f i) l := H.q.2.1.1
  rcases b_cases k l with ⟨pre, x, post, rfl, hpre⟩ | hno
  · have HF := hide (find_hit hv (by omega) hpre g i hc)
    rw [bhas_hit, bput_hit hpre]
    have hmid := at_mid pre (k, x) post
    have hmn : pre.length < (pre ++ (k, x) :: post).length := by simp
    have HS := hide (enV_set pre k x y post)
    have HL : Hid ((pre ++ (k, x) :: post).length = (pre ++ (k, y) :: post).length) := by show _ = _; simp
    have HV := hide hv
    obtain ⟨v, hfv⟩ : ∃ v, f i = v := ⟨_, rfl⟩
    rw [hfv] at hv hc HV H
    have HU : Hid (updF f i v = f) := by show _ = _; rw [← hfv]; exact updF_self f i
    obtain ⟨pa, c2, rfl⟩ := own_shape hv
    unfold enP at H
    have HH := hide H
    unfold rowE at HV
    clear hv hpre hfv H hn
    generalize pre ++ (k, x) :: post = l at *
    generalize pre ++ (k, y) :: post = l' at *
    generalize pre.length = m at *
    obtain ⟨q, hq⟩ : ∃ q, l.length = q := ⟨_, rfl⟩
    rw [hq] at HH hc HU
    rw [hq] at hmn HV HL
    have hmi : (m : Int) < (q : Int) := by omega
    have hm0 : ¬ (m : Int) < 0 := by omega
    go_enter Tryz.func214, Tryz.ntmps214
    go_wp2_with (go_at_call 157; refine HF.out.mono ?_; rintro e w1 ⟨rfl, hg1⟩; have hc1 := cell_grown0 hg1 hc; obtain ⟨ga, rfl, d1, d2⟩ := entry_at (row_grown HV.out hg1) hmid; have hfz := World.ownsRow.frozenAt (row_grown HV.out hg1) (m * 2 + 1))
    go_ret
    refine ⟨rfl, .slice (some ⟨ga, 0, none⟩) q c2, ?_⟩
    have H1 := HH.out.step hg1
    obtain ⟨h1, h2⟩ := World.ownsRow.stored (row_grown HV.out hg1) (m * 2 + 1) (.pointer (some ⟨Int.toNat y, 0, none⟩))
    rw [HS.out] at h1
    have H2 := (H1.rot.app0 (v' := .slice (some ⟨ga, 0, none⟩) q c2) (m := q) h1 h2 (.inl rfl)).rot
    unfold enP
    rw [HU.out, ← HL.out]
    exact H2
  · have HF := hide (find_miss hv (by omega) hno g i hc)
    rw [bhas_miss hno, bput_miss hno]
    have HH := hide H
    obtain ⟨i0, hi0, hz0, hz1, hz2⟩ := info_parts info_entry
    have he : (enV (l ++ [(k, y)])) = enV l ++ [.string k, .pointer (some ⟨Int.toNat y, 0, none⟩)] := by rw [enV_app, enV_one]
    have HE := hide he
    have hlen : (l ++ [(k, y)]).length = l.length + 1 := by simp
    have HL := hide hlen
    clear hv hno H he hlen
    obtain ⟨q, hq⟩ : ∃ q, l.length = q := ⟨_, rfl⟩
    rw [hq] at hn
    go_enter Tryz.func214, Tryz.ntmps214
    go_wp2_with (first
      | (go_at_call 157; refine HF.out.mono ?_; rintro e w1 ⟨rfl, hg1⟩; have hc1 := cell_grown0 hg1 hc; have H1 := hide (HH.out.step hg1); have hrow : w1.ownsRow 0 184 2 (f i) l.length (enV l) := H1.out.q.2.1.1; rw [hq] at hrow)
      | (at_builtin; refine wpList_append_own_at _ rfl _ _ 181 rfl 0 184 i0 (.agg #[.string ⟨#[]⟩, .pointer none]) 2 24 Tryz.underlying181 hi0 hz0 hz1 hz2 rfl (by decide) _ _ _ rfl (hrow.alloc _) ⟨w1.heap.size, 0, none⟩ 1 1 [.string k, .pointer (some ⟨Int.toNat y, 0, none⟩)] rfl rfl (cell_two_new _ _ _ _) (by simp [Value.oneCell']) (by unfold maxLen; omega) (by omega) (Nat.zero_le _) ?_; intro v' w2 hown' hgrow _ hat; obtain ⟨g', cap', rfl⟩ := ownsRow_succ hown'; rw [← HE.out] at hown'; have H2 := hide ((H1.out.rot.app hown' hgrow hat).rot); obtain ⟨d1, d2⟩ := ar_cell H2.out.q.1 hi; clear hrow hown' hgrow hat))
    go_ret
    refine ⟨rfl, .slice (some ⟨g', 0, none⟩) (q + 1) cap', ?_⟩
    unfold enP
    rw [HL.out, hq]
    exact H2.out.bkSet (i := i) (.slice (some ⟨g', 0, none⟩) (q + 1) cap')
end Go.Proofs.YtkfeafmpaodagaaGreatDoor

namespace Go.Proofs.YtkfeafmpaodagaaGreatDoor
open Go.RowKit

/-- An append at a step of a region that draws its order, its run known as an equation. -/
theorem step_append_run {P : Program} (w : World) {ops : Array Oper} {o : Oper} {a : Act} {K : Act → World → Prop} {Q : Exit → Act → World → Prop} {E : Prop} (d : Tmp) (hd : o.dst = some d) (hgd : o.guard = none) (s x : Operand) (t tn : TypeId)
    (ho : o.op = .call { callee := .builtin .append, args := #[s, x], argTypes := #[t, tn] }) (vs vx : Value) (hs : a.eval s = vs) (hx : a.eval x = vx) (v' : Value) (w' : World) (ty : TypeId) (hty : o.type = ty) (hr : (Builtin.append_ #[t, tn] ty #[vs, vx]).run P w = .ok v' w')
    (h : K (a.put (some d) v') w') : if Region.wanted o (yielded ops a.tmps) = true then Oper.wp P o a w K Q else E := by
  have hw : Region.wanted o (yielded ops a.tmps) = true := by simp [Region.wanted, hgd]
  rw [if_pos hw, ← hd] at *
  exact Lib.wp_append_run w s x t tn ho vs vx hs hx v' w' (hty ▸ hr) h
/-- An entry that has nothing. -/
def zeV : List Value := [.string ⟨#[]⟩, .pointer none]
/-- One entry's cells are cleared. -/
theorem clear_entry {w : World} {g j c : Nat} {cur : Array Value} (hg : w.heap[g]? = some (.cells cur 184 (0, 0))) (hj : j * 2 + 2 ≤ cur.size) (ty : TypeId) :
    (Builtin.clear_ #[181] ty #[.slice (some ⟨g, j * 2, none⟩) 1 c]).run Tryz.prog w = .ok (.tuple #[]) (w.setRow g (cur.toList.take (j * 2) ++ zeV ++ cur.toList.drop (j * 2 + 2)).toArray) := by
  have hst := run_storeCells_at Tryz.prog g (j * 2) 184 zeV 0 _ w hg (by simpa [zeV] using hj) (by simp [zeV, Value.oneCell'])
  have hst2 : (storeCells ⟨g, j * 2, none⟩ zeV 0).run Tryz.prog w = .ok () (w.setRow g (cur.toList.take (j * 2) ++ zeV ++ cur.toList.drop (j * 2 + 2)).toArray) := hst
  have hz : (zeroValue 184).run Tryz.prog w = .ok (.agg #[.string ⟨#[]⟩, .pointer none]) w := by kernel_rfl
  have hc : (Builtin.zeroCells (Value.agg #[Value.string ⟨#[]⟩, .pointer none]).cells 1).toList = zeV := by kernel_rfl
  simp [Builtin.clear_, run_underlying Tryz.underlying181, hz, hc, hst2, Result.andThen]
/-- Behind an entry of a row that is cut by one. -/
theorem clear_behind {w : World} {g n cap : Nat} {xs : List Value} (h : w.ownsRow 0 184 2 (.slice (some ⟨g, 0, none⟩) n cap) n xs) (hn : n < cap) (c : Nat) :
    ∃ w', (∀ ty, (Builtin.clear_ #[181] ty #[.slice (some ⟨g, n * 2, none⟩) 1 c]).run Tryz.prog w = .ok (.tuple #[]) w') ∧ w'.ownsRow 0 184 2 (.slice (some ⟨g, 0, none⟩) n cap) n xs ∧ w.grownBy w' (some g) := by
  have hl := h.1
  rcases h.2 with ⟨h', _⟩ | ⟨g', cap', cur, h', hb, hg, hnc, hcm, hcs, htake⟩
  · simp at h'
  · simp only [Value.slice.injEq, Option.some.injEq, Addr.mk.injEq, and_true, true_and] at h'
    obtain ⟨rfl, rfl⟩ := h'
    have hj : n * 2 + 2 ≤ cur.size := by omega
    refine ⟨_, fun ty => clear_entry hg hj ty, ⟨hl, .inr ⟨g, cap, _, rfl, hb, setRow_heap w g _ _ _ _ hg, hnc, hcm, ?_, ?_⟩⟩, ⟨rfl, rfl, rfl, by simp [World.setRow], fun k _ hk => setRow_other w g k _ (fun e => hk (by rw [e]))⟩⟩
    · simp [zeV]
      omega
    · simp only [List.append_assoc]
      rw [List.take_append_of_le_length (by simp; omega), List.take_take, Nat.min_self]
      exact htake
section
variable {g m n t q cap : Nat}
theorem cut_back (hq : m + 1 + q = n) (hc : n ≤ cap) : ∃ a : Addr, (a = ⟨g, (m + 1) * 2, none⟩ ∨ q = 0) ∧ ∀ w : World, (Instr.sliceAt 181 (.slice (some ⟨g, 0, none⟩) n cap) (some (.int .i64 ((m : Int) + 1))) none none).run Tryz.prog w = .ok (.slice (some a) q (cap - (m + 1))) w := by
  have h1 : ((m : Int) + 1) ≤ (n : Int) := by omega
  have h2 : n - (m + 1) = q := by omega
  have h3 : ((m : Int) + 1).toNat = m + 1 := by omega
  have h4 : (0 : Int) ≤ (m : Int) + 1 := by omega
  by_cases e : cap = m + 1
  · refine ⟨⟨g, 0, none⟩, .inr (by omega), fun w => ?_⟩
    subst e
    go_simp
  · refine ⟨⟨g, (m + 1) * 2, none⟩, .inl rfl, fun w => ?_⟩
    go_simp
theorem cut_three (hq : m + 1 ≤ n) (hc : n ≤ cap) : ∃ u, ∀ w : World, (Instr.sliceAt 181 (.slice (some ⟨g, 0, none⟩) n cap) (some (.int .i64 (m : Int))) (some (.int .i64 ((m : Int) + 1))) (some (.int .i64 (n : Int)))).run Tryz.prog w = .ok u w := by
  have h1 : (n : Int) ≤ (cap : Int) := by omega
  have h3 : ((m : Int) + 1).toNat = m + 1 := by omega
  have h4 : (m : Int) + 1 ≤ (n : Int) := by omega
  have h5 : (0 : Int) ≤ (m : Int) + 1 := by omega
  have h6 : ¬ n = m := by omega
  refine ⟨.slice (some ⟨g, m * 2, none⟩) 1 (n - m), fun w => ?_⟩
  go_simp
theorem cut_front (hc : m ≤ cap) : ∀ w : World, (Instr.sliceAt 181 (.slice (some ⟨g, 0, none⟩) n cap) none (some (.int .i64 (m : Int))) none).run Tryz.prog w = .ok (.slice (some ⟨g, 0, none⟩) m cap) w := fun w => by
  have hki : (m : Int) ≤ (cap : Int) := by omega
  go_simp
theorem cut_rest (ht : t + 1 = n) (hc : n ≤ cap) : ∀ w : World, (Instr.sliceAt 181 (.slice (some ⟨g, 0, none⟩) t cap) (some (.int .i64 (t : Int))) (some (.int .i64 (n : Int))) none).run Tryz.prog w = .ok (.slice (some ⟨g, t * 2, none⟩) 1 (cap - t)) w := fun w => by
  have hki : (n : Int) ≤ (cap : Int) := by omega
  have h1 : (t : Int) ≤ (n : Int) := by omega
  have h2 : n - t = 1 := by omega
  have h3 : ¬ cap = t := by omega
  go_simp
end
set_option maxRecDepth 100000 in
set_option maxHeartbeats 4000000 in
theorem sdel_any {F : Nat → Prop} {w0 w : World} {R : Part} {v : Value} {pre post : List Kv} {p : Kv} (H : LawF F w0 w ((enP v (pre ++ p :: post)).and R)) :
    Calls Tryz.prog 203 #[v, .int .i64 (pre.length : Nat), .int .i64 ((pre.length : Nat) + 1)] w fun e w' => ∃ u, e = .returned u ∧ (∃ a b c, u = .slice a b c) ∧ LawF F w0 w' ((enP u (pre ++ post)).and R) := by
  obtain ⟨g, cap, rfl⟩ := own_form H.q.1 (by simp; omega)
  obtain ⟨hcap, hmax⟩ := own_cap H.q.1
  have hmx : cap ≤ 9223372036854775807 := hmax
  obtain ⟨i0, hi0, hz0, hz1, hz2⟩ := info_parts info_entry
  obtain ⟨m, hm⟩ : ∃ m, pre.length = m := ⟨_, rfl⟩
  obtain ⟨q, hq⟩ : ∃ q, post.length = q := ⟨_, rfl⟩
  obtain ⟨n, hlen⟩ : ∃ n, (pre ++ p :: post).length = n := ⟨_, rfl⟩
  obtain ⟨t, hlen2⟩ : ∃ t, (pre ++ post).length = t := ⟨_, rfl⟩
  have hnm : m + 1 + q = n := by rw [← hlen]; simp; omega
  have htm : m + q = t := by rw [← hlen2]; simp; omega
  have hrow : w.ownsRow 0 184 2 (.slice (some ⟨g, 0, none⟩) n cap) n (enV (pre ++ p :: post)) := by rw [← hlen]; exact H.q.1
  unfold enP at H ⊢
  rw [hlen] at H hcap ⊢
  rw [hlen2, hm]
  have hfront : w.ownsRow 0 184 2 (.slice (some ⟨g, 0, none⟩) m cap) m (enV pre) := by
    have := row_take hrow (k := m) (by omega)
    rwa [enV_take, List.take_left' hm] at this
  have hback : ∀ j u, (enV post)[j]? = some u → w.cell? ⟨g, (m + 1) * 2 + j, none⟩ = some u := by
    intro j u hu
    have hj := (List.getElem?_eq_some_iff.1 hu).1
    rw [enV_len, hq] at hj
    rw [hrow.cellAt _ (by omega)]
    have e : (enV (pre ++ p :: post)).drop ((m + 1) * 2) = enV post := by
      rw [enV_drop _ _ (by rw [hlen]; omega), show pre ++ p :: post = (pre ++ [p]) ++ post by simp, List.drop_left' (by simp; omega)]
    rw [← e, List.getElem?_drop] at hu
    exact hu
  obtain ⟨a, ha, hsl⟩ := cut_back (g := g) hnm hcap
  obtain ⟨u3, hsl3⟩ := cut_three (g := g) (m := m) (n := n) (cap := cap) (by omega) hcap
  have hsl1 := cut_front (g := g) (m := m) (n := n) (cap := cap) (by omega)
  have hsl4 := cut_rest (g := g) (t := t) (n := n) (cap := cap) (by omega) hcap
  have hnews : ∀ j u, (enV post)[j]? = some u → w.drew.cell? (a.add j) = some u := by
    intro j u hu
    rcases ha with rfl | h0
    · have := hback j u hu
      rw [Addr.add_lit]
      exact this
    · have : post = [] := List.length_eq_zero_iff.1 (hq.trans h0)
      subst this
      simp [enV] at hu
  obtain ⟨w1, hr1, ho1, hg1⟩ := run_append_fits (P := Tryz.prog) w.drew 0 181 181 184 i0 2 Tryz.underlying181 hi0 hz1 g m cap (enV pre) hfront.drew a q (cap - (m + 1)) (enV post) (by rw [enV_len, hq]) hnews (enV_cell post) (by omega)
  rw [htm] at hr1 ho1
  rw [← enV_app] at ho1
  obtain ⟨w2, hr2, ho2, hg2⟩ := clear_behind ho1 (by omega) (cap - t)
  have HH := hide ((H.drew.app0 ho1 hg1 (.inl rfl)).app0 ho2 hg2 (.inl rfl))
  have hR1 := hide hr1
  have hne : ((m : Int) == (m : Int) + 1) = false := beq_eq_false_iff_ne.2 (by omega)
  clear H hrow hfront hback hnews ha hr1 ho1 hg1 ho2 hg2 hm hq hlen hlen2
  go_enter Tryz.func203, Tryz.ntmps203
  go_upto_region 5 with fail
  go_region_held_law (fun _ => True) (trivial) ((refine step_append_run _ 26 rfl rfl _ _ 181 181 rfl _ _ rfl rfl _ _ 181 rfl hR1.out ?_))
  go_wp2
  go_ret
  exact ⟨_, rfl, ⟨_, _, _, rfl⟩, HH.out⟩
set_option maxRecDepth 100000 in
set_option maxHeartbeats 2000000 in
theorem btake_any {F : Nat → Prop} {w0 w : World} {R : Part} {g n cap i : Nat} {f : Nat → Value} {l : List Kv} (H : LawF F w0 w ((arP (.slice (some ⟨g, 0, none⟩) n cap) n f).and ((enP (f i) l).and R))) (hi : i < n) (hn : l.length ≤ 50000) (k : ByteArray) :
    Calls Tryz.prog 169 #[.pointer (some ⟨g, i, none⟩), .string k] w fun e w' => e = .returned (.bool (bhas k l)) ∧ ∃ u, LawF F w0 w' ((arP (.slice (some ⟨g, 0, none⟩) n cap) n (updF f i u)).and ((enP u (bdel k l)).and R)) := by
  obtain ⟨hc, -⟩ := ar_cell H.q.1 hi
  have hv : rowE w (f i) l := H.q.2.1.1
  rcases b_cases k l with ⟨pre, x, post, rfl, hpre⟩ | hno
  · have HF := hide (find_hit hv (by omega) hpre g i hc)
    rw [bhas_hit, bdel_hit hpre]
    have HH := hide H
    have hmn : pre.length < (pre ++ (k, x) :: post).length := by simp
    have hml : pre.length ≤ 50000 := by omega
    clear hv hpre H
    have hm0 : ¬ (pre.length : Int) < 0 := by omega
    have HD := hide (fun W (L : LawF F w0 W ((enP (f i) (pre ++ (k, x) :: post)).and ((arP (.slice (some ⟨g, 0, none⟩) n cap) n f).and R))) => sdel_any L)
    clear hn hmn
    generalize pre ++ (k, x) :: post = l at *
    generalize pre ++ post = l' at *
    generalize pre.length = m at *
    have e1 : wrap64 ((m : Int) + 1) = (m : Int) + 1 := by unfold wrap64; omega
    go_enter Tryz.func169, Tryz.ntmps169
    go_wp2_with (first
      | (go_at_call 157; refine HF.out.mono ?_; rintro e w1 ⟨rfl, hg1⟩; have hc1 := cell_grown0 hg1 hc; have H1 := hide (HH.out.step hg1))
      | (go_at_call 203; refine (HD.out _ H1.out.rot).mono ?_; rintro e w2 ⟨u, rfl, ⟨ua, ub, uc, rfl⟩, H2⟩; replace H2 := hide H2.rot; obtain ⟨d1, d2⟩ := ar_cell H2.out.q.1 hi))
    go_ret
    exact ⟨rfl, _, H2.out.bkSet (i := i) (.slice ua ub uc)⟩
  · have HF := hide (find_miss hv (by omega) hno g i hc)
    rw [bhas_miss hno, bdel_miss hno]
    have HH := hide H
    clear hv hno H
    go_enter Tryz.func169, Tryz.ntmps169
    go_wp2_with (go_at_call 157; refine HF.out.mono ?_; rintro e w1 ⟨rfl, hg1⟩)
    go_ret
    refine ⟨rfl, f i, ?_⟩
    rw [updF_self]
    exact HH.out.step hg1
end Go.Proofs.YtkfeafmpaodagaaGreatDoor
