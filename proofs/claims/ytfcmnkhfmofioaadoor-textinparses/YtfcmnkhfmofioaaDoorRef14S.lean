/- The document's own text dialect: its functions for lines that ask, that store, and the others, any words. Conditions: words of at most 5000 bytes, at most 5000 of them. -/
import Derived.Test.YtfcmnkhfmofioaaDoorRef14N
import Derived.Test.YtfcmnkhfmofioaaDoorRef14O
import Derived.Test.YtfcmnkhfmofioaaDoorRef14G
import Derived.Test.YtfcmnkhfmofioaaDoorRef14H
import Derived.Test.YtfcmnkhfmofioaaDoorRef14J
import Derived.Test.YtfcmnkhfmofioaaDoorRef14K
import Derived.Test.YtfcmnkhfmofioaaDoorRef14L
import Derived.Test.YtfcmnkhfmofioaaDoorRef14M
import Derived.Test.YtfcmnkhfmofioaaDoorRef14P
import Derived.Test.YtfcmnkhfmofioaaDoorG09Joined
namespace Go.Proofs.YtfcmnkhfmofioaaDoor
set_option linter.unusedVariables false
open Go.RowKit

section
variable {w : World} {b n cap : Nat} {v : List UInt8} {ws : List (List UInt8)} {q : Bool}
theorem rgets_any (hW : Ru w b 0 n cap (v :: ws)) (hl : ∀ x ∈ ws, x.length ≤ 5000) (hn : ws.length ≤ 5000) (hv : v = vb_get ∨ v = vb_gets ∨ v = vb_gat ∨ v = vb_gats) (used : Int) : Calls Tryd.prog 16 #[.slice (some ⟨b, 0, none⟩) n cap, .int .i64 used] w fun e w' => REnd b (rgetsN v ws used) w e w' := by
  have hln : ws.length + 1 = n := hW.n
  unfold rgetsN
  rcases hv with rfl | rfl | rfl | rfl
  · rw [if_neg (by decide)]
    cases ws with
    | nil => exact rg_get_few hW (by simp at hln; omega) used
    | cons k ks =>
      simp only []
      cases hk : rkeysN (k :: ks)
      · rw [if_pos rfl]; exact rg_get_keys hW (by simp) hk used
      · rw [if_neg (by simp)]; exact rg_get_ok hW (by simp) hk hn used
  · rw [if_neg (by decide)]
    cases ws with
    | nil => exact rg_gets_few hW (by simp at hln; omega) used
    | cons k ks =>
      simp only []
      cases hk : rkeysN (k :: ks)
      · rw [if_pos rfl]; exact rg_gets_keys hW (by simp) hk used
      · rw [if_neg (by simp)]; exact rg_gets_ok hW (by simp) hk hn used
  · rw [if_pos (by decide)]
    match ws, hW, hl, hn, hln with
    | [], hW, _, _, hln => exact rg_gat_few hW (by simp at hln; omega) used
    | [x], hW, _, _, hln => exact rg_gat_few hW (by simp at hln; omega) used
    | x :: k :: ks, hW, hl, hn, hln =>
      simp only []
      have hx : x.length ≤ 5000 := hl x (by simp)
      cases hk : rkeysN (k :: ks)
      · rw [if_pos rfl]; exact rg_gat_keys hW (by simp) hk used
      · rw [if_neg (by simp)]
        cases hz : sgn x with
        | none => exact rg_gat_exp hW (by simp) hk hx hz used
        | some z => exact rg_gat_ok hW (by simp) hk hx hz (by simp at hn ⊢; omega) used
  · rw [if_pos (by decide)]
    match ws, hW, hl, hn, hln with
    | [], hW, _, _, hln => exact rg_gats_few hW (by simp at hln; omega) used
    | [x], hW, _, _, hln => exact rg_gats_few hW (by simp at hln; omega) used
    | x :: k :: ks, hW, hl, hn, hln =>
      simp only []
      have hx : x.length ≤ 5000 := hl x (by simp)
      cases hk : rkeysN (k :: ks)
      · rw [if_pos rfl]; exact rg_gats_keys hW (by simp) hk used
      · rw [if_neg (by simp)]
        cases hz : sgn x with
        | none => exact rg_gats_exp hW (by simp) hk hx hz used
        | some z => exact rg_gats_ok hW (by simp) hk hx hz (by simp at hn ⊢; omega) used
theorem rothers_any (hW : Ru w b 0 n cap (v :: ws)) (hl : ∀ x ∈ ws, x.length ≤ 5000) (hv : v = vb_delete ∨ v = vb_incr ∨ v = vb_decr ∨ v = vb_touch ∨ v = vb_flush) (used : Int) : Calls Tryd.prog 21 #[.slice (some ⟨b, 0, none⟩) n cap, .bool q, .int .i64 used] w fun e w' => REnd b (rothersN v ws q used) w e w' := by
  have hln : ws.length + 1 = n := hW.n
  unfold rothersN
  rcases hv with rfl | rfl | rfl | rfl | rfl
  · rw [if_neg (by decide), if_pos rfl]
    match ws, hW, hl, hln with
    | [], hW, _, hln => exact rdelete_few hW (by simp at hln; omega) used
    | [x], hW, _, hln =>
      obtain rfl : 2 = n := hln
      simp only []
      cases hk : keyN x
      · rw [if_pos rfl]; exact rdelete_key hW hk used
      · rw [if_neg (by simp)]; exact rdelete_ok hW hk used
    | x :: y :: zs, hW, _, hln => exact rdelete_few hW (by simp at hln; omega) used
  · rw [if_neg (by decide), if_neg (by decide), if_neg (by decide)]
    match ws, hW, hl, hln with
    | [], hW, _, hln => exact rincr_few hW (by simp at hln; omega) used
    | [x], hW, _, hln => exact rincr_few hW (by simp at hln; omega) used
    | [x, y], hW, hl, hln =>
      obtain rfl : 3 = n := hln
      simp only []
      have hy : y.length ≤ 5000 := hl y (by simp)
      cases hk : keyN x
      · rw [if_pos rfl]; exact rincr_key hW hk used
      · rw [if_neg (by simp)]
        cases hd : dec y with
        | none => exact rincr_bad hW hk hy hd used
        | some u =>
          simp only []
          rw [if_neg (by decide)]
          exact rincr_ok hW hk hy hd used
    | x :: y :: z :: zs, hW, _, hln => exact rincr_few hW (by simp at hln; omega) used
  · rw [if_neg (by decide), if_neg (by decide), if_neg (by decide)]
    match ws, hW, hl, hln with
    | [], hW, _, hln => exact rdecr_few hW (by simp at hln; omega) used
    | [x], hW, _, hln => exact rdecr_few hW (by simp at hln; omega) used
    | [x, y], hW, hl, hln =>
      obtain rfl : 3 = n := hln
      simp only []
      have hy : y.length ≤ 5000 := hl y (by simp)
      cases hk : keyN x
      · rw [if_pos rfl]; exact rdecr_key hW hk used
      · rw [if_neg (by simp)]
        cases hd : dec y with
        | none => exact rdecr_bad hW hk hy hd used
        | some u =>
          simp only [if_true]
          exact rdecr_ok hW hk hy hd used
    | x :: y :: z :: zs, hW, _, hln => exact rdecr_few hW (by simp at hln; omega) used
  · rw [if_neg (by decide), if_neg (by decide), if_pos rfl]
    match ws, hW, hl, hln with
    | [], hW, _, hln => exact rtouch_few hW (by simp at hln; omega) used
    | [x], hW, _, hln => exact rtouch_few hW (by simp at hln; omega) used
    | [x, y], hW, hl, hln =>
      obtain rfl : 3 = n := hln
      simp only []
      have hy : y.length ≤ 5000 := hl y (by simp)
      cases hk : keyN x
      · rw [if_pos rfl]; exact rtouch_key hW hk used
      · rw [if_neg (by simp)]
        cases hd : sgn y with
        | none => exact rtouch_bad hW hk hy hd used
        | some u => exact rtouch_ok hW hk hy hd used
    | x :: y :: z :: zs, hW, _, hln => exact rtouch_few hW (by simp at hln; omega) used
  · rw [if_pos rfl]
    match ws, hW, hl, hln with
    | [], hW, _, hln =>
      obtain rfl : 1 = n := hln
      exact rflush_none hW used
    | [x], hW, hl, hln =>
      obtain rfl : 2 = n := hln
      simp only []
      have hx : x.length ≤ 5000 := hl x (by simp)
      cases hz : sgn x with
      | none => exact rflush_bad hW hx hz used
      | some z => exact rflush_some hW hx hz used
    | x :: y :: zs, hW, _, hln => exact rflush_many hW (by simp) used
section
variable {a : Option Addr} {len cp : Nat} {l : List UInt8} {x f e y c : List UInt8}
theorem rskip_none (h : dec y = none) : rskip y = 0 := by unfold rskip; rw [h]
theorem rskip_small {u : Nat} (h : dec y = some u) (hu : u ≤ 1073741824) : rskip y = (u : Int) + 2 := by unfold rskip; rw [h]; simp only []; rw [if_pos hu]
theorem rskip_big {u : Nat} (h : dec y = some u) (hu : 1073741824 < u) : rskip y = 0 := by unfold rskip; rw [h]; simp only []; rw [if_neg (by omega)]
theorem rst_any (hW : Ru w b 0 5 cap [v, x, f, e, y]) (hv : v ≠ vb_cas) (lf : f.length ≤ 5000) (le : e.length ≤ 5000) (ly : y.length ≤ 5000) (hB : Bu w a len cp l) (hlen : len ≤ 10000) (used : Nat) (hu : used ≤ len) : Calls Tryd.prog 20 #[.slice (some ⟨b, 0, none⟩) 5 cap, .bool q, .int .i64 (used : Int), .slice a len cp] w fun e' w' => REnd b (rstN v q x f e y (some 0) (l.drop used) (used : Int)) w e' w' := by
  unfold rstN rbadS
  cases hk : keyN x
  · rw [if_pos rfl]
    cases hy : dec y with
    | none => rw [rskip_none hy]; exact rst_key_none hW hv lf le ly hk hy used
    | some u =>
      by_cases h : u ≤ 1073741824
      · rw [rskip_small hy h]; exact rst_key_small hW hv lf le ly hk hy h used
      · rw [rskip_big hy (by omega)]; exact rst_key_big hW hv lf le ly hk hy (by omega) used
  rw [if_neg (by simp)]
  cases hf : dec f with
  | none =>
    cases hy : dec y with
    | none => rw [rskip_none hy]; exact rst_fnone_none hW hv lf le ly hk hy hf used
    | some u =>
      by_cases h : u ≤ 1073741824
      · rw [rskip_small hy h]; exact rst_fnone_small hW hv lf le ly hk hy h hf used
      · rw [rskip_big hy (by omega)]; exact rst_fnone_big hW hv lf le ly hk hy (by omega) hf used
  | some fu =>
    simp only []
    by_cases hfu : 4294967295 < fu
    · rw [if_pos hfu]
      cases hy : dec y with
      | none => rw [rskip_none hy]; exact rst_fbig_none hW hv lf le ly hk hy hf hfu used
      | some u =>
        by_cases h : u ≤ 1073741824
        · rw [rskip_small hy h]; exact rst_fbig_small hW hv lf le ly hk hy h hf hfu used
        · rw [rskip_big hy (by omega)]; exact rst_fbig_big hW hv lf le ly hk hy (by omega) hf hfu used
    rw [if_neg hfu]
    have hfu : fu ≤ 4294967295 := by omega
    cases he : sgn e with
    | none =>
      cases hy : dec y with
      | none => rw [rskip_none hy]; exact rst_enone_none hW hv lf le ly hk hy hf hfu he used
      | some u =>
        by_cases h : u ≤ 1073741824
        · rw [rskip_small hy h]; exact rst_enone_small hW hv lf le ly hk hy h hf hfu he used
        · rw [rskip_big hy (by omega)]; exact rst_enone_big hW hv lf le ly hk hy (by omega) hf hfu he used
    | some z =>
      cases hy : dec y with
      | none => rw [rskip_none hy]; exact rst_ynone hW hv lf le ly hk hy hf hfu he used
      | some u =>
        simp only []
        by_cases h1 : 1000 < u
        · rw [if_pos h1]
          by_cases h : u ≤ 1073741824
          · rw [rskip_small hy h]; exact rst_large_small hW hv lf le ly hk hy h hf hfu he h1 used
          · rw [rskip_big hy (by omega)]; exact rst_large_big hW hv lf le ly hk hy (by omega) hf hfu he h1 used
        · rw [if_neg h1]
          have h1 : u ≤ 1000 := by omega
          have h : u ≤ 1073741824 := by omega
          by_cases h3 : (bodyN (l.drop used) (u : Int)).2.2 = 3
          · rw [if_pos h3]; exact rst_more hW hv lf le ly hk hy h hf hfu he hB hlen h1 used hu h3
          rw [if_neg h3]
          by_cases h2 : (bodyN (l.drop used) (u : Int)).2.2 = 2
          · rw [if_pos h2]; exact rst_chunk hW hv lf le ly hk hy h hf hfu he hB hlen h1 used hu h2
          rw [if_neg h2]
          have h0 : (bodyN (l.drop used) (u : Int)).2.2 = 0 := by
            rcases body_ways (l.drop used) (u : Int) with h | h | h
            · exact absurd h h3
            · exact absurd h h2
            · exact h
          exact rst_ok hW hv lf le ly hk hy h hf hfu he hB hlen h1 used hu h0
theorem rca_any (hW : Ru w b 0 6 cap [vb_cas, x, f, e, y, c]) (lf : f.length ≤ 5000) (le : e.length ≤ 5000) (ly : y.length ≤ 5000) (lc : c.length ≤ 5000) (hB : Bu w a len cp l) (hlen : len ≤ 10000) (used : Nat) (hu : used ≤ len) : Calls Tryd.prog 20 #[.slice (some ⟨b, 0, none⟩) 6 cap, .bool q, .int .i64 (used : Int), .slice a len cp] w fun e' w' => REnd b (rstN vb_cas q x f e y (dec c) (l.drop used) (used : Int)) w e' w' := by
  unfold rstN rbadS
  cases hk : keyN x
  · rw [if_pos rfl]
    cases hy : dec y with
    | none => rw [rskip_none hy]; exact rca_key_none hW lf le ly lc hk hy used
    | some u =>
      by_cases h : u ≤ 1073741824
      · rw [rskip_small hy h]; exact rca_key_small hW lf le ly lc hk hy h used
      · rw [rskip_big hy (by omega)]; exact rca_key_big hW lf le ly lc hk hy (by omega) used
  rw [if_neg (by simp)]
  cases hf : dec f with
  | none =>
    cases hy : dec y with
    | none => rw [rskip_none hy]; exact rca_fnone_none hW lf le ly lc hk hy hf used
    | some u =>
      by_cases h : u ≤ 1073741824
      · rw [rskip_small hy h]; exact rca_fnone_small hW lf le ly lc hk hy h hf used
      · rw [rskip_big hy (by omega)]; exact rca_fnone_big hW lf le ly lc hk hy (by omega) hf used
  | some fu =>
    simp only []
    by_cases hfu : 4294967295 < fu
    · rw [if_pos hfu]
      cases hy : dec y with
      | none => rw [rskip_none hy]; exact rca_fbig_none hW lf le ly lc hk hy hf hfu used
      | some u =>
        by_cases h : u ≤ 1073741824
        · rw [rskip_small hy h]; exact rca_fbig_small hW lf le ly lc hk hy h hf hfu used
        · rw [rskip_big hy (by omega)]; exact rca_fbig_big hW lf le ly lc hk hy (by omega) hf hfu used
    rw [if_neg hfu]
    have hfu : fu ≤ 4294967295 := by omega
    cases he : sgn e with
    | none =>
      cases hy : dec y with
      | none => rw [rskip_none hy]; exact rca_enone_none hW lf le ly lc hk hy hf hfu he used
      | some u =>
        by_cases h : u ≤ 1073741824
        · rw [rskip_small hy h]; exact rca_enone_small hW lf le ly lc hk hy h hf hfu he used
        · rw [rskip_big hy (by omega)]; exact rca_enone_big hW lf le ly lc hk hy (by omega) hf hfu he used
    | some z =>
      cases hy : dec y with
      | none => rw [rskip_none hy]; exact rca_ynone hW lf le ly lc hk hy hf hfu he used
      | some u =>
        simp only []
        cases hc : dec c with
        | none =>
          by_cases h : u ≤ 1073741824
          · rw [rskip_small hy h]; exact rca_cnone_small hW lf le ly lc hk hy h hf hfu he hc used
          · rw [rskip_big hy (by omega)]; exact rca_cnone_big hW lf le ly lc hk hy (by omega) hf hfu he hc used
        | some cu =>
        simp only []
        by_cases h1 : 1000 < u
        · rw [if_pos h1]
          by_cases h : u ≤ 1073741824
          · rw [rskip_small hy h]; exact rca_large_small hW lf le ly lc hk hy h hf hfu he hc h1 used
          · rw [rskip_big hy (by omega)]; exact rca_large_big hW lf le ly lc hk hy (by omega) hf hfu he hc h1 used
        · rw [if_neg h1]
          have h1 : u ≤ 1000 := by omega
          have h : u ≤ 1073741824 := by omega
          by_cases h3 : (bodyN (l.drop used) (u : Int)).2.2 = 3
          · rw [if_pos h3]; exact rca_more hW lf le ly lc hk hy h hf hfu he hc hB hlen h1 used hu h3
          rw [if_neg h3]
          by_cases h2 : (bodyN (l.drop used) (u : Int)).2.2 = 2
          · rw [if_pos h2]; exact rca_chunk hW lf le ly lc hk hy h hf hfu he hc hB hlen h1 used hu h2
          rw [if_neg h2]
          have h0 : (bodyN (l.drop used) (u : Int)).2.2 = 0 := by
            rcases body_ways (l.drop used) (u : Int) with h | h | h
            · exact absurd h h3
            · exact absurd h h2
            · exact h
          exact rca_ok hW lf le ly lc hk hy h hf hfu he hc hB hlen h1 used hu h0
theorem rstores_any (hW : Ru w b 0 n cap (v :: ws)) (hl : ∀ x ∈ ws, x.length ≤ 5000) (hB : Bu w a len cp l) (hlen : len ≤ 10000) (used : Nat) (hu : used ≤ len) : Calls Tryd.prog 20 #[.slice (some ⟨b, 0, none⟩) n cap, .bool q, .int .i64 (used : Int), .slice a len cp] w fun e' w' => REnd b (rstoresN v ws q (used : Int) (l.drop used)) w e' w' := by
  have hln : ws.length + 1 = n := hW.n
  unfold rstoresN
  by_cases hv : v = vb_cas
  · subst hv
    rw [if_pos rfl]
    split
    · rename_i x f e y c
      obtain rfl : 6 = n := hln
      exact rca_any hW (hl f (by simp)) (hl e (by simp)) (hl y (by simp)) (hl c (by simp)) hB hlen used hu
    · rename_i hne
      refine rca_few hW (fun h => ?_) used
      obtain ⟨x, f, e, y, c, rfl⟩ : ∃ x f e y c, ws = [x, f, e, y, c] := by
        have h5 : ws.length = 5 := by omega
        match ws, h5 with
        | [x, f, e, y, c], _ => exact ⟨x, f, e, y, c, rfl⟩
      exact hne x f e y c rfl
  · rw [if_neg hv]
    split
    · rename_i x f e y
      obtain rfl : 5 = n := hln
      exact rst_any hW hv (hl f (by simp)) (hl e (by simp)) (hl y (by simp)) hB hlen used hu
    · rename_i hne
      refine rst_few hW hv (fun h => ?_) used
      obtain ⟨x, f, e, y, rfl⟩ : ∃ x f e y, ws = [x, f, e, y] := by
        have h4 : ws.length = 4 := by omega
        match ws, h4 with
        | [x, f, e, y], _ => exact ⟨x, f, e, y, rfl⟩
      exact hne x f e y rfl
end
end
end Go.Proofs.YtfcmnkhfmofioaaDoor
