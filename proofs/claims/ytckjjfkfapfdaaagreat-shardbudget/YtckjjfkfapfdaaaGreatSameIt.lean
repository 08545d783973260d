/- The document's own answer of whether two items are the same. Conditions: the bytes of both values can be read. -/
import Derived.Test.YtckjjfkfapfdaaaGreatG28Joined
import Derived.Test.YtckjjfkfapfdaaaGreatSame8
namespace Go.Proofs.YtckjjfkfapfdaaaGreat
open Go.RowKit Go.Shelf

theorem bytes_ne {u v : List UInt8} (h : u ≠ v) : ((⟨u.toArray⟩ : ByteArray).toList == (⟨v.toArray⟩ : ByteArray).toList) = false := str_ne fun e => h (by
  have := congrArg (fun b : ByteArray => b.data.toList) e
  simpa using this)
set_option maxRecDepth 100000 in
set_option maxHeartbeats 8000000 in
theorem sameIt_any (i1 i2 : Iv) (a1 a2 : Option Addr) (c1 c2 : Nat) (w : World) (h1 : Bs w a1 i1.val.length c1 (ints i1.val)) (h2 : Bs w a2 i2.val.length c2 (ints i2.val)) :
    Calls Tryz.prog 23 #[.agg (itC (itOf i1 a1 c1)), .agg (itC (itOf i2 a2 c2))] w fun e w' => ∃ q : Bool, e = .returned (.bool q) ∧ (i1 = i2 → q = true) ∧ w.grownBy w' none := by
  have g0 := gr_trans (World.grownBy_alloc w (.cells (itC (itOf i1 a1 c1)) 34) none) (World.grownBy_alloc (w.alloc (.cells (itC (itOf i1 a1 c1)) 34)) (.cells (itC (itOf i2 a2 c2)) 34) none)
  have v1c := conv_bs ((h1.alloc (.cells (itC (itOf i1 a1 c1)) 34)).alloc (.cells (itC (itOf i2 a2 c2)) 34))
  have v2c := conv_bs ((h2.alloc (.cells (itC (itOf i1 a1 c1)) 34)).alloc (.cells (itC (itOf i2 a2 c2)) 34))
  rw [strOf_ints] at v1c v2c
  clear h1 h2
  obtain ⟨k1, u1, f1, x1, s1, t1, q1, b1, o1, n1⟩ := i1
  obtain ⟨k2, u2, f2, x2, s2, t2, q2, b2, o2, n2⟩ := i2
  have G := hide g0
  clear g0
  unfold itOf itC at *
  dsimp only at *
  go_enter Tryz.func23, Tryz.ntmps23
  by_cases he : k1 = k2
  case neg =>
    have hb := str_ne he
    have HN := hide he
    clear he
    go_wp2
    go_ret
    exact ⟨false, rfl, fun e => absurd (congrArg Iv.key e) HN.out, G.out⟩
  subst he
  by_cases he : u1 = u2
  case neg =>
    have hb := bytes_ne he
    have HN := hide he
    clear he
    go_wp2
    go_ret
    exact ⟨false, rfl, fun e => absurd (congrArg Iv.val e) HN.out, G.out⟩
  subst he
  by_cases he : f1 = f2
  case neg =>
    have hb := beq_eq_false_iff_ne.2 he
    have HN := hide he
    clear he
    go_wp2
    go_ret
    exact ⟨false, rfl, fun e => absurd (congrArg Iv.fl e) HN.out, G.out⟩
  subst he
  by_cases he : x1 = x2
  case neg =>
    have hb := beq_eq_false_iff_ne.2 he
    have HN := hide he
    clear he
    go_wp2
    go_ret
    exact ⟨false, rfl, fun e => absurd (congrArg Iv.exp e) HN.out, G.out⟩
  subst he
  by_cases he : s1 = s2
  case neg =>
    have hb := beq_eq_false_iff_ne.2 he
    have HN := hide he
    clear he
    go_wp2
    go_ret
    exact ⟨false, rfl, fun e => absurd (congrArg Iv.cas e) HN.out, G.out⟩
  subst he
  by_cases he : t1 = t2
  case neg =>
    have hb := beq_eq_false_iff_ne.2 he
    have HN := hide he
    clear he
    go_wp2
    go_ret
    exact ⟨false, rfl, fun e => absurd (congrArg Iv.sec e) HN.out, G.out⟩
  subst he
  by_cases he : q1 = q2
  case neg =>
    have hb := beq_eq_false_iff_ne.2 he
    have HN := hide he
    clear he
    go_wp2
    go_ret
    exact ⟨false, rfl, fun e => absurd (congrArg Iv.seq e) HN.out, G.out⟩
  subst he
  by_cases he : b1 = b2
  case neg =>
    have hb := beq_eq_false_iff_ne.2 he
    have HN := hide he
    clear he
    go_wp2
    go_ret
    exact ⟨false, rfl, fun e => absurd (congrArg Iv.st e) HN.out, G.out⟩
  subst he
  by_cases he : o1 = o2
  case neg =>
    have hb := beq_eq_false_iff_ne.2 he
    have HN := hide he
    clear he
    go_wp2
    go_ret
    exact ⟨false, rfl, fun e => absurd (congrArg Iv.won e) HN.out, G.out⟩
  subst he
  by_cases he : n1 = n2
  case neg =>
    have hb := beq_eq_false_iff_ne.2 he
    have HN := hide he
    clear he
    go_wp2
    go_ret
    exact ⟨false, rfl, fun e => absurd (congrArg Iv.seen e) HN.out, G.out⟩
  subst he
  go_wp2
  go_ret
  exact ⟨by simp, G.out⟩
end Go.Proofs.YtckjjfkfapfdaaaGreat
