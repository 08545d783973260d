/- What package table does in one bucket: get and put. Conditions: at most 100000 entries. -/
import Derived.Test.YtncblaofgdcfmaaTableBk
namespace Go.Proofs.Ytncblaofgdcfmaa
open Go.RowKit

theorem getL_hit {k : ByteArray} {x : Int} {pre post : List Kv} (h : ∀ p ∈ pre, p.1 ≠ k) : getL k (pre ++ (k, x) :: post) = some x := by
  unfold getL
  rw [List.find?_append, List.find?_eq_none.2 fun p hp => by simpa using h p hp]
  simp
theorem at_mid (pre : List Kv) (p : Kv) (post : List Kv) : (pre ++ p :: post)[pre.length]? = some p := by simp
set_option maxRecDepth 100000 in
set_option maxHeartbeats 2000000 in
theorem bget_any {w : World} {v : Value} {l : List Kv} (hv : rowE w v l) (hn : l.length ≤ 100000) (k : ByteArray) (g i : Nat) (hc : w.cell? ⟨g, i, none⟩ = some v) :
    Calls Try.prog 30 #[.pointer (some ⟨g, i, none⟩), .string k] w fun e w' => e = .returned (.tuple #[.int .i64 ((getL k l).getD 0), .bool (bhas k l)]) ∧ w.grownBy w' none := by
  rcases b_cases k l with ⟨pre, x, post, rfl, hpre⟩ | hno
  · have HF := hide (find_hit hv hn hpre g i hc)
    have HR : Hid (Value.tuple #[.int .i64 ((getL k (pre ++ (k, x) :: post)).getD 0), .bool (bhas k (pre ++ (k, x) :: post))] = .tuple #[.int .i64 x, .bool true]) := by
      show _ = _
      rw [getL_hit hpre, bhas_hit]
      rfl
    rw [HR.out]
    have hmid := at_mid pre (k, x) post
    have hmn : pre.length < (pre ++ (k, x) :: post).length := by simp
    have HV := hide hv
    obtain ⟨pa, cap, rfl⟩ := own_shape hv
    unfold rowE at HV
    clear hv hpre HR
    generalize pre ++ (k, x) :: post = l at *
    generalize pre.length = m at *
    generalize l.length = n at *
    have hmi : (m : Int) < (n : Int) := by omega
    have hm0 : ¬ (m : Int) < 0 := by omega
    go_enter Try.func30, Try.ntmps30
    go_wp2_with (go_at_call 35; refine HF.out.mono ?_; rintro e w1 ⟨rfl, hg1⟩; have hc1 := cell_grown0 hg1 hc; obtain ⟨ga, rfl, d1, d2⟩ := entry_at (row_grown HV.out hg1) hmid)
    go_ret2
    exact ⟨rfl, hg1⟩
  · have HF := hide (find_miss hv hn hno g i hc)
    have HR : Hid (Value.tuple #[.int .i64 ((getL k l).getD 0), .bool (bhas k l)] = .tuple #[.int .i64 0, .bool false]) := by
      show _ = _
      rw [get_none hno, bhas_miss hno]
      rfl
    rw [HR.out]
    clear hv hno HR
    go_enter Try.func30, Try.ntmps30
    go_wp2_with (go_at_call 35; refine HF.out.mono ?_; rintro e w1 ⟨rfl, hg1⟩)
    go_ret2
    exact ⟨rfl, hg1⟩
theorem enV_set (pre : List Kv) (k : ByteArray) (x y : Int) (post : List Kv) : (enV (pre ++ (k, x) :: post)).set (pre.length * 2 + 1) (.int .i64 y) = enV (pre ++ (k, y) :: post) := by
  have e : ∀ z : Int, enV (pre ++ (k, z) :: post) = enV pre ++ (.string k :: .int .i64 z :: enV post) := fun z => by rw [enV_app]; rfl
  rw [e, e, List.set_append_right _ _ (by rw [enV_len]; omega), enV_len, show pre.length * 2 + 1 - pre.length * 2 = 1 by omega]
  rfl
section
variable {F : Nat → Prop} {w0 w w' w1 : World} {R : Part} {g n cap i : Nat} {f : Nat → Value} {l : List Kv}
/-- A bucket of a row of buckets is stored anew. -/
theorem LawF.bkSet {B : Part} (H : LawF F w0 w ((arP (.slice (some ⟨g, 0, none⟩) n cap) n f).and (B.and R))) (u : Value) : LawF F w0 (w.setCell ⟨g, i, none⟩ u) ((arP (.slice (some ⟨g, 0, none⟩) n cap) n (updF f i u)).and (B.and R)) := H.arSet u
end
set_option maxRecDepth 100000 in
set_option maxHeartbeats 2000000 in
theorem bput_any {F : Nat → Prop} {w0 w : World} {R : Part} {g n cap i : Nat} {f : Nat → Value} {l : List Kv} (H : LawF F w0 w ((arP (.slice (some ⟨g, 0, none⟩) n cap) n f).and ((enP (f i) l).and R))) (hi : i < n) (hn : l.length ≤ 50000) (k : ByteArray) (y : Int) :
    Calls Try.prog 26 #[.pointer (some ⟨g, i, none⟩), .string k, .int .i64 y] w fun e w' => e = .returned (.bool (!bhas k l)) ∧ ∃ u, LawF F w0 w' ((arP (.slice (some ⟨g, 0, none⟩) n cap) n (updF f i u)).and ((enP u (bput k y l)).and R)) := by
  obtain ⟨hc, -⟩ := ar_cell H.q.1 hi
  have hv : rowE w (f i) l := H.q.2.1.1
  rcases b_cases k l with ⟨pre, x, post, rfl, hpre⟩ | hno
  · have HF := hide (find_hit hv (by omega) hpre g i hc)
    rw [bhas_hit, bput_hit hpre]
    have hmid := at_mid pre (k, x) post
    have hmn : pre.length < (pre ++ (k, x) :: post).length := by simp
    have HS := hide (enV_set pre k x y post)
    have HL : Hid ((pre ++ (k, x) :: post).length = (pre ++ (k, y) :: post).length) := by show _ = _; simp
    have HV := hide hv
    obtain ⟨v, hfv⟩ : ∃ v, f i = v := ⟨_, rfl⟩
    rw [hfv] at hv hc HV H
    have HU : Hid (updF f i v = f) := by show _ = _; rw [← hfv]; exact updF_self f i
    obtain ⟨pa, c2, rfl⟩ := own_shape hv
    unfold enP at H
    have HH := hide H
    unfold rowE at HV
    clear hv hpre hfv H hn
    generalize pre ++ (k, x) :: post = l at *
    generalize pre ++ (k, y) :: post = l' at *
    generalize pre.length = m at *
    obtain ⟨q, hq⟩ : ∃ q, l.length = q := ⟨_, rfl⟩
    rw [hq] at HH hc HU
    rw [hq] at hmn HV HL
    have hmi : (m : Int) < (q : Int) := by omega
    have hm0 : ¬ (m : Int) < 0 := by omega
    go_enter Try.func26, Try.ntmps26
    go_wp2_with (go_at_call 35; refine HF.out.mono ?_; rintro e w1 ⟨rfl, hg1⟩; have hc1 := cell_grown0 hg1 hc; obtain ⟨ga, rfl, d1, d2⟩ := entry_at (row_grown HV.out hg1) hmid; have hfz := World.ownsRow.frozenAt (row_grown HV.out hg1) (m * 2 + 1))
    go_ret
    refine ⟨rfl, .slice (some ⟨ga, 0, none⟩) q c2, ?_⟩
    have H1 := HH.out.step hg1
    obtain ⟨h1, h2⟩ := World.ownsRow.stored (row_grown HV.out hg1) (m * 2 + 1) (.int .i64 y)
    rw [HS.out] at h1
    have H2 := (H1.rot.app0 (v' := .slice (some ⟨ga, 0, none⟩) q c2) (m := q) h1 h2 (.inl rfl)).rot
    unfold enP
    rw [HU.out, ← HL.out]
    exact H2
  · have HF := hide (find_miss hv (by omega) hno g i hc)
    rw [bhas_miss hno, bput_miss hno]
    have HH := hide H
    obtain ⟨i0, hi0, hz0, hz1, hz2⟩ := info_parts info_entry
    have he : (enV (l ++ [(k, y)])) = enV l ++ [.string k, .int .i64 y] := by rw [enV_app, enV_one]
    have HE := hide he
    have hlen : (l ++ [(k, y)]).length = l.length + 1 := by simp
    have HL := hide hlen
    clear hv hno H he hlen
    obtain ⟨q, hq⟩ : ∃ q, l.length = q := ⟨_, rfl⟩
    rw [hq] at hn
    go_enter Try.func26, Try.ntmps26
    go_wp2_with (first
      | (go_at_call 35; refine HF.out.mono ?_; rintro e w1 ⟨rfl, hg1⟩; have hc1 := cell_grown0 hg1 hc; have H1 := hide (HH.out.step hg1); have hrow : w1.ownsRow 0 63 2 (f i) l.length (enV l) := H1.out.q.2.1.1; rw [hq] at hrow)
      | (at_builtin; refine wpList_append_own_at _ rfl _ _ 61 rfl 0 63 i0 (.agg #[.string ⟨#[]⟩, .int .i64 0]) 2 24 Try.underlying61 hi0 hz0 hz1 hz2 rfl (by decide) _ _ _ rfl (hrow.alloc _) ⟨w1.heap.size, 0, none⟩ 1 1 [.string k, .int .i64 y] rfl rfl (cell_two_new _ _ _ _) (by simp [Value.oneCell']) (by unfold maxLen; omega) (by omega) (Nat.zero_le _) ?_; intro v' w2 hown' hgrow _ hat; obtain ⟨g', cap', rfl⟩ := ownsRow_succ hown'; rw [← HE.out] at hown'; have H2 := hide ((H1.out.rot.app hown' hgrow hat).rot); obtain ⟨d1, d2⟩ := ar_cell H2.out.q.1 hi; clear hrow hown' hgrow hat))
    go_ret
    refine ⟨rfl, .slice (some ⟨g', 0, none⟩) (q + 1) cap', ?_⟩
    unfold enP
    rw [HL.out, hq]
    exact H2.out.bkSet (i := i) (.slice (some ⟨g', 0, none⟩) (q + 1) cap')
end Go.Proofs.Ytncblaofgdcfmaa
