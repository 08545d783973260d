/- Bytes as text of sixty-four signs, and back, over lists alone: nothing of the program is run here. Conditions: where bytes are spoken of, each is 0 to 255. -/
import Derived.Lib.Bytealg
import Derived.Lib.TrimByte
import Derived.KernelRfl
namespace Go.Proofs.YtecljjkbadapeaaDoor

/-- The sixty-four signs. -/
def sigB : List UInt8 := [65, 66, 67, 68, 69, 70, 71, 72, 73, 74, 75, 76, 77, 78, 79, 80, 81, 82, 83, 84, 85, 86, 87, 88, 89, 90, 97, 98, 99, 100, 101, 102, 103, 104, 105, 106, 107, 108, 109, 110, 111, 112, 113, 114, 115, 116, 117, 118, 119, 120, 121, 122, 48, 49, 50, 51, 52, 53, 54, 55, 56, 57, 43, 47]
/-- The sign of a number. -/
def sg (n : Int) : UInt8 := sigB.getD n.toNat 0
/-- The number of a sign; -1: it is none. -/
def ix (c : UInt8) : Int := Lib.indexByte sigB c

theorem sg_nat : ∀ n, n < 64 → ix (sigB.getD n 0) = n ∧ sigB.getD n 0 ≠ 61 := by decide +kernel
theorem ix_sg (n : Int) (h0 : 0 ≤ n) (h1 : n < 64) : ix (sg n) = n := by
  have := (sg_nat n.toNat (by omega)).1
  unfold sg
  rw [this]
  omega
theorem sg_fill (n : Int) (h0 : 0 ≤ n) (h1 : n < 64) : sg n ≠ 61 := (sg_nat n.toNat (by omega)).2
theorem ix_nat : ∀ n, n < 256 → ix (UInt8.ofNat n) = -1 ∨ (0 ≤ ix (UInt8.ofNat n) ∧ ix (UInt8.ofNat n) < 64 ∧ sg (ix (UInt8.ofNat n)) = UInt8.ofNat n) := by decide +kernel
theorem ix_cases (c : UInt8) : ix c = -1 ∨ (0 ≤ ix c ∧ ix c < 64 ∧ sg (ix c) = c) := by
  have h := ix_nat c.toNat c.toNat_lt
  rw [UInt8.ofNat_toNat] at h
  exact h
theorem ix_fill : ix 61 = -1 := by decide +kernel

/-- The text of bytes, but for what fills it up. -/
def encBody : List Int → List UInt8
  | a :: b :: c :: r => sg (a / 4) :: sg (a % 4 * 16 + b / 16) :: sg (b % 16 * 4 + c / 64) :: sg (c % 64) :: encBody r
  | [a, b] => [sg (a / 4), sg (a % 4 * 16 + b / 16), sg (b % 16 * 4)]
  | [a] => [sg (a / 4), sg (a % 4 * 16)]
  | [] => []
/-- How many signs fill it up. -/
def fillN (n : Nat) : Nat := (3 - n % 3) % 3
/-- The text of bytes. -/
def encB (zs : List Int) : List UInt8 := encBody zs ++ List.replicate (fillN zs.length) 61

/-- The bytes and the bits left, of signs behind 'o' bytes and 'b' of 't' bits. -/
def decRun : List UInt8 → List Int → Int → Nat → Option (List Int × Int)
  | [], o, b, _ => some (o, b)
  | c :: l, o, b, t => if ix c < 0 then none else if t < 2 then decRun l o (b * 64 + ix c) (t + 6)
    else decRun l (o ++ [(b * 64 + ix c) / 2 ^ (t - 2) % 256]) ((b * 64 + ix c) % 2 ^ (t - 2)) (t - 2)
def decFin : Option (List Int × Int) → Option (List Int)
  | none => none
  | some (o, b) => if b ≠ 0 then none else some o
/-- The bytes of a text. -/
def decB (s : List UInt8) : Option (List Int) :=
  if s.length % 4 ≠ 0 ∨ 2 < s.length - (Lib.trimRightB s 61).length then none else decFin (decRun (Lib.trimRightB s 61) [] 0 0)

def Byt (zs : List Int) : Prop := ∀ z ∈ zs, 0 ≤ z ∧ z ≤ 255
theorem Byt.head {z : Int} {zs : List Int} (h : Byt (z :: zs)) : 0 ≤ z ∧ z ≤ 255 := h z (List.mem_cons_self ..)
theorem Byt.tail {z : Int} {zs : List Int} (h : Byt (z :: zs)) : Byt zs := fun x hx => h x (List.mem_cons_of_mem _ hx)

theorem dec1 (c : UInt8) (l : List UInt8) (o : List Int) (h : 0 ≤ ix c) : decRun (c :: l) o 0 0 = decRun l o (ix c) 6 := by
  rw [decRun, if_neg (by omega), if_pos (by omega), Int.zero_mul, Int.zero_add]
theorem dec2 (c : UInt8) (l : List UInt8) (o : List Int) (b : Int) (h : 0 ≤ ix c) : decRun (c :: l) o b 6 = decRun l (o ++ [(b * 64 + ix c) / 16 % 256]) ((b * 64 + ix c) % 16) 4 := by
  rw [decRun, if_neg (by omega), if_neg (by omega)]; rfl
theorem dec3 (c : UInt8) (l : List UInt8) (o : List Int) (b : Int) (h : 0 ≤ ix c) : decRun (c :: l) o b 4 = decRun l (o ++ [(b * 64 + ix c) / 4 % 256]) ((b * 64 + ix c) % 4) 2 := by
  rw [decRun, if_neg (by omega), if_neg (by omega)]; rfl
theorem dec4 (c : UInt8) (l : List UInt8) (o : List Int) (b : Int) (h : 0 ≤ ix c) : decRun (c :: l) o b 2 = decRun l (o ++ [(b * 64 + ix c) % 256]) 0 0 := by
  rw [decRun, if_neg (by omega), if_neg (by omega)]
  rw [show (2 : Int) ^ (2 - 2) = 1 by decide, Int.ediv_one, Int.emod_one]
theorem decNo (c : UInt8) (l : List UInt8) (o : List Int) (b : Int) (t : Nat) (h : ix c < 0) : decRun (c :: l) o b t = none := by
  rw [decRun, if_pos h]

theorem app3 (o : List Int) (a b c : Int) (l : List Int) : o ++ [a] ++ [b] ++ [c] ++ l = o ++ a :: b :: c :: l := by simp

/-- Bytes come back. -/
theorem dec_enc : ∀ (zs : List Int) (o : List Int), Byt zs → decRun (encBody zs) o 0 0 = some (o ++ zs, 0)
  | a :: b :: c :: r, o, h => by
    have ha := h.head
    have hb := h.tail.head
    have hc := h.tail.tail.head
    have i1 := ix_sg (a / 4) (by omega) (by omega)
    have i2 := ix_sg (a % 4 * 16 + b / 16) (by omega) (by omega)
    have i3 := ix_sg (b % 16 * 4 + c / 64) (by omega) (by omega)
    have i4 := ix_sg (c % 64) (by omega) (by omega)
    rw [encBody, dec1 _ _ _ (by omega), dec2 _ _ _ _ (by omega), dec3 _ _ _ _ (by omega), dec4 _ _ _ _ (by omega), i1, i2, i3, i4, dec_enc r _ h.tail.tail.tail, app3]
    have e1 : (a / 4 * 64 + (a % 4 * 16 + b / 16)) / 16 % 256 = a := by omega
    have e2 : ((a / 4 * 64 + (a % 4 * 16 + b / 16)) % 16 * 64 + (b % 16 * 4 + c / 64)) / 4 % 256 = b := by omega
    have e3 : (((a / 4 * 64 + (a % 4 * 16 + b / 16)) % 16 * 64 + (b % 16 * 4 + c / 64)) % 4 * 64 + c % 64) % 256 = c := by omega
    rw [e1, e2, e3]
  | [a, b], o, h => by
    have ha := h.head
    have hb := h.tail.head
    have i1 := ix_sg (a / 4) (by omega) (by omega)
    have i2 := ix_sg (a % 4 * 16 + b / 16) (by omega) (by omega)
    have i3 := ix_sg (b % 16 * 4) (by omega) (by omega)
    rw [encBody, dec1 _ _ _ (by omega), dec2 _ _ _ _ (by omega), dec3 _ _ _ _ (by omega), i1, i2, i3, decRun, List.append_assoc]
    have e1 : (a / 4 * 64 + (a % 4 * 16 + b / 16)) / 16 % 256 = a := by omega
    have e2 : ((a / 4 * 64 + (a % 4 * 16 + b / 16)) % 16 * 64 + b % 16 * 4) / 4 % 256 = b := by omega
    have e3 : ((a / 4 * 64 + (a % 4 * 16 + b / 16)) % 16 * 64 + b % 16 * 4) % 4 = 0 := by omega
    rw [e1, e2, e3]
    rfl
  | [a], o, h => by
    have ha := h.head
    have i1 := ix_sg (a / 4) (by omega) (by omega)
    have i2 := ix_sg (a % 4 * 16) (by omega) (by omega)
    rw [encBody, dec1 _ _ _ (by omega), dec2 _ _ _ _ (by omega), i1, i2, decRun]
    have e1 : (a / 4 * 64 + a % 4 * 16) / 16 % 256 = a := by omega
    have e2 : (a / 4 * 64 + a % 4 * 16) % 16 = 0 := by omega
    rw [e1, e2]
  | [], o, _ => by rw [encBody, decRun, List.append_nil]

theorem body_len : ∀ (zs : List Int), (encBody zs).length = zs.length / 3 * 4 + (if zs.length % 3 = 0 then 0 else zs.length % 3 + 1)
  | a :: b :: c :: r => by
    rw [encBody, List.length_cons, List.length_cons, List.length_cons, List.length_cons, body_len r, List.length_cons, List.length_cons, List.length_cons]
    have e1 : (r.length + 1 + 1 + 1) / 3 = r.length / 3 + 1 := by omega
    have e2 : (r.length + 1 + 1 + 1) % 3 = r.length % 3 := by omega
    rw [e1, e2]
    omega
  | [a, b] => by simp [encBody]
  | [a] => by simp [encBody]
  | [] => rfl
theorem enc_len (zs : List Int) : (encB zs).length = (zs.length + 2) / 3 * 4 := by
  rw [encB, List.length_append, body_len, List.length_replicate, fillN]
  split <;> omega

theorem body_signs : ∀ (zs : List Int), Byt zs → ∀ c ∈ encBody zs, ∃ n, 0 ≤ n ∧ n < 64 ∧ c = sg n
  | a :: b :: c :: r, h, x, hx => by
    have ha := h.head
    have hb := h.tail.head
    have hc := h.tail.tail.head
    rw [encBody] at hx
    simp only [List.mem_cons] at hx
    rcases hx with hx | hx | hx | hx | hx
    · exact ⟨_, by omega, by omega, hx⟩
    · exact ⟨_, by omega, by omega, hx⟩
    · exact ⟨_, by omega, by omega, hx⟩
    · exact ⟨_, by omega, by omega, hx⟩
    · exact body_signs r h.tail.tail.tail x hx
  | [a, b], h, x, hx => by
    have ha := h.head
    have hb := h.tail.head
    rw [encBody] at hx
    simp only [List.mem_cons, List.not_mem_nil, or_false] at hx
    rcases hx with hx | hx | hx
    · exact ⟨_, by omega, by omega, hx⟩
    · exact ⟨_, by omega, by omega, hx⟩
    · exact ⟨_, by omega, by omega, hx⟩
  | [a], h, x, hx => by
    have ha := h.head
    rw [encBody] at hx
    simp only [List.mem_cons, List.not_mem_nil, or_false] at hx
    rcases hx with hx | hx
    · exact ⟨_, by omega, by omega, hx⟩
    · exact ⟨_, by omega, by omega, hx⟩
  | [], _, x, hx => by simp [encBody] at hx

theorem trim_fill (x : List UInt8) (p : Nat) (h : ∀ c ∈ x, c ≠ 61) : Lib.trimRightB (x ++ List.replicate p 61) 61 = x := by
  have hd : ∀ (p : Nat) (l : List UInt8), List.dropWhile (· == (61 : UInt8)) (List.replicate p 61 ++ l) = List.dropWhile (· == (61 : UInt8)) l := by
    intro p l
    induction p with
    | zero => rfl
    | succ p ih => rw [List.replicate_succ, List.cons_append, List.dropWhile_cons_of_pos (by rfl), ih]
  unfold Lib.trimRightB
  rw [List.reverse_append, List.reverse_replicate, hd]
  cases hx : x.reverse with
  | nil => have := List.reverse_eq_nil_iff.1 hx; rw [this]; rfl
  | cons c l =>
    have hc : c ∈ x := by rw [← List.mem_reverse, hx]; exact List.mem_cons_self ..
    rw [List.dropWhile_cons_of_neg (by simpa using h c hc), ← hx, List.reverse_reverse]
theorem trim_parts (s : List UInt8) : s = Lib.trimRightB s 61 ++ List.replicate (s.length - (Lib.trimRightB s 61).length) 61 := by
  have hg : ∀ (l : List UInt8), ∃ k, l = List.replicate k 61 ++ l.dropWhile (· == (61 : UInt8)) := by
    intro l
    induction l with
    | nil => exact ⟨0, rfl⟩
    | cons c l ih =>
      by_cases hc : c = 61
      · subst hc
        obtain ⟨k, hk⟩ := ih
        refine ⟨k + 1, ?_⟩
        rw [List.dropWhile_cons_of_pos (by rfl), List.replicate_succ, List.cons_append, ← hk]
      · exact ⟨0, by rw [List.dropWhile_cons_of_neg (by simpa using hc)]; rfl⟩
  obtain ⟨k, hk⟩ := hg s.reverse
  have h1 : s = Lib.trimRightB s 61 ++ List.replicate k 61 := by
    have := congrArg List.reverse hk
    rw [List.reverse_reverse, List.reverse_append, List.reverse_replicate] at this
    exact this
  have h2 : s.length = (Lib.trimRightB s 61).length + k := by
    have := congrArg List.length h1
    rw [List.length_append, List.length_replicate] at this
    exact this
  rw [show s.length - (Lib.trimRightB s 61).length = k by omega]
  exact h1

theorem back (zs : List Int) (h : Byt zs) : decB (encB zs) = some zs := by
  have ht : Lib.trimRightB (encB zs) 61 = encBody zs := trim_fill _ _ fun c hc => by
    obtain ⟨n, h0, h1, rfl⟩ := body_signs zs h c hc
    exact sg_fill n h0 h1
  have hl := enc_len zs
  have hl2 : (encB zs).length = (encBody zs).length + fillN zs.length := by rw [encB, List.length_append, List.length_replicate]
  have hf : fillN zs.length < 3 := by unfold fillN; omega
  unfold decB
  rw [ht, dec_enc zs [] h, if_neg (by omega)]
  rfl

theorem dec_shape : ∀ (l : List UInt8) (o o' : List Int), l.length % 4 ≠ 1 → decRun l o 0 0 = some (o', 0) → ∃ bs, o' = o ++ bs ∧ encBody bs = l ∧ fillN bs.length = (4 - l.length % 4) % 4 ∧ Byt bs
  | [], o, o', _, h => by
    rw [decRun] at h
    simp only [Option.some.injEq, Prod.mk.injEq, and_true] at h
    exact ⟨[], by rw [h, List.append_nil], rfl, rfl, fun z hz => by cases hz⟩
  | [c1], o, o', hl, h => absurd rfl hl
  | [c1, c2], o, o', hl, h => by
    rcases ix_cases c1 with g1 | ⟨a1, b1, s1⟩
    · rw [decNo _ _ _ _ _ (by omega)] at h; cases h
    rcases ix_cases c2 with g2 | ⟨a2, b2, s2⟩
    · rw [dec1 _ _ _ a1, decNo _ _ _ _ _ (by omega)] at h; cases h
    rw [dec1 _ _ _ a1, dec2 _ _ _ _ a2, decRun] at h
    simp only [Option.some.injEq, Prod.mk.injEq] at h
    obtain ⟨h1, h2⟩ := h
    refine ⟨[(ix c1 * 64 + ix c2) / 16 % 256], h1.symm, ?_, rfl, fun z hz => ?_⟩
    · have e1 : (ix c1 * 64 + ix c2) / 16 % 256 / 4 = ix c1 := by omega
      have e2 : (ix c1 * 64 + ix c2) / 16 % 256 % 4 * 16 = ix c2 := by omega
      rw [encBody, e1, e2, s1, s2]
    · simp only [List.mem_cons, List.not_mem_nil, or_false] at hz; omega
  | [c1, c2, c3], o, o', hl, h => by
    rcases ix_cases c1 with g1 | ⟨a1, b1, s1⟩
    · rw [decNo _ _ _ _ _ (by omega)] at h; cases h
    rcases ix_cases c2 with g2 | ⟨a2, b2, s2⟩
    · rw [dec1 _ _ _ a1, decNo _ _ _ _ _ (by omega)] at h; cases h
    rcases ix_cases c3 with g3 | ⟨a3, b3, s3⟩
    · rw [dec1 _ _ _ a1, dec2 _ _ _ _ a2, decNo _ _ _ _ _ (by omega)] at h; cases h
    rw [dec1 _ _ _ a1, dec2 _ _ _ _ a2, dec3 _ _ _ _ a3, decRun] at h
    simp only [Option.some.injEq, Prod.mk.injEq] at h
    obtain ⟨h1, h2⟩ := h
    refine ⟨[(ix c1 * 64 + ix c2) / 16 % 256, ((ix c1 * 64 + ix c2) % 16 * 64 + ix c3) / 4 % 256], by rw [← h1, List.append_assoc]; rfl, ?_, rfl, fun z hz => ?_⟩
    · have e1 : (ix c1 * 64 + ix c2) / 16 % 256 / 4 = ix c1 := by omega
      have e2 : (ix c1 * 64 + ix c2) / 16 % 256 % 4 * 16 + ((ix c1 * 64 + ix c2) % 16 * 64 + ix c3) / 4 % 256 / 16 = ix c2 := by omega
      have e3 : ((ix c1 * 64 + ix c2) % 16 * 64 + ix c3) / 4 % 256 % 16 * 4 = ix c3 := by omega
      rw [encBody, e1, e2, e3, s1, s2, s3]
    · simp only [List.mem_cons, List.not_mem_nil, or_false] at hz; omega
  | c1 :: c2 :: c3 :: c4 :: r, o, o', hl, h => by
    rcases ix_cases c1 with g1 | ⟨a1, b1, s1⟩
    · rw [decNo _ _ _ _ _ (by omega)] at h; cases h
    rcases ix_cases c2 with g2 | ⟨a2, b2, s2⟩
    · rw [dec1 _ _ _ a1, decNo _ _ _ _ _ (by omega)] at h; cases h
    rcases ix_cases c3 with g3 | ⟨a3, b3, s3⟩
    · rw [dec1 _ _ _ a1, dec2 _ _ _ _ a2, decNo _ _ _ _ _ (by omega)] at h; cases h
    rcases ix_cases c4 with g4 | ⟨a4, b4, s4⟩
    · rw [dec1 _ _ _ a1, dec2 _ _ _ _ a2, dec3 _ _ _ _ a3, decNo _ _ _ _ _ (by omega)] at h; cases h
    rw [dec1 _ _ _ a1, dec2 _ _ _ _ a2, dec3 _ _ _ _ a3, dec4 _ _ _ _ a4] at h
    obtain ⟨bs, h1, h2, h3, h4⟩ := dec_shape r _ o' (by simp only [List.length_cons] at hl; omega) h
    refine ⟨(ix c1 * 64 + ix c2) / 16 % 256 :: ((ix c1 * 64 + ix c2) % 16 * 64 + ix c3) / 4 % 256 :: (((ix c1 * 64 + ix c2) % 16 * 64 + ix c3) % 4 * 64 + ix c4) % 256 :: bs, by rw [h1, app3], ?_, ?_, ?_⟩
    · have e1 : (ix c1 * 64 + ix c2) / 16 % 256 / 4 = ix c1 := by omega
      have e2 : (ix c1 * 64 + ix c2) / 16 % 256 % 4 * 16 + ((ix c1 * 64 + ix c2) % 16 * 64 + ix c3) / 4 % 256 / 16 = ix c2 := by omega
      have e3 : ((ix c1 * 64 + ix c2) % 16 * 64 + ix c3) / 4 % 256 % 16 * 4 + (((ix c1 * 64 + ix c2) % 16 * 64 + ix c3) % 4 * 64 + ix c4) % 256 / 64 = ix c3 := by omega
      have e4 : (((ix c1 * 64 + ix c2) % 16 * 64 + ix c3) % 4 * 64 + ix c4) % 256 % 64 = ix c4 := by omega
      rw [encBody, e1, e2, e3, e4, s1, s2, s3, s4, h2]
    · simp only [List.length_cons]
      unfold fillN at h3 ⊢
      omega
    · intro z hz
      simp only [List.mem_cons] at hz
      rcases hz with hz | hz | hz | hz
      · omega
      · omega
      · omega
      · exact h4 z hz

theorem dec_some {s : List UInt8} {b : List Int} (h : decB s = some b) : s.length % 4 = 0 ∧ s.length - (Lib.trimRightB s 61).length ≤ 2 ∧ decRun (Lib.trimRightB s 61) [] 0 0 = some (b, 0) := by
  unfold decB at h
  by_cases hc : s.length % 4 ≠ 0 ∨ 2 < s.length - (Lib.trimRightB s 61).length
  · rw [if_pos hc] at h; cases h
  · rw [if_neg hc] at h
    refine ⟨by omega, by omega, ?_⟩
    cases hr : decRun (Lib.trimRightB s 61) [] 0 0 with
    | none => rw [hr] at h; cases h
    | some p =>
      obtain ⟨o, x⟩ := p
      rw [hr] at h
      by_cases hx : x = 0
      · subst hx
        simp [decFin] at h
        rw [h]
      · simp [decFin, hx] at h

/-- A text that is bytes' is the text of these. -/
theorem again {s : List UInt8} {b : List Int} (h : decB s = some b) : encB b = s ∧ Byt b := by
  obtain ⟨h1, h2, h3⟩ := dec_some h
  have hp := trim_parts s
  have hl : s.length = (Lib.trimRightB s 61).length + (s.length - (Lib.trimRightB s 61).length) := by
    have := congrArg List.length hp
    rw [List.length_append, List.length_replicate] at this
    exact this
  obtain ⟨bs, e1, e2, e3, e4⟩ := dec_shape _ _ _ (by omega) h3
  rw [List.nil_append] at e1
  subst e1
  refine ⟨?_, e4⟩
  rw [encB, e2, e3, show (4 - (Lib.trimRightB s 61).length % 4) % 4 = s.length - (Lib.trimRightB s 61).length by omega]
  exact hp.symm

/-- Three by three, the one text behind the other. -/
theorem body_join : ∀ (a b : List Int), a.length % 3 = 0 → encBody (a ++ b) = encBody a ++ encBody b
  | x :: y :: z :: r, b, h => by
    have hr : r.length % 3 = 0 := by simp only [List.length_cons] at h; omega
    simp only [List.cons_append]
    rw [encBody, encBody, body_join r b hr]
    rfl
  | [x, y], b, h => by simp at h
  | [x], b, h => by simp at h
  | [], b, _ => rfl
theorem enc_join (a b : List Int) (h : a.length % 3 = 0) : encB (a ++ b) = encB a ++ encB b := by
  have h0 : fillN a.length = 0 := by unfold fillN; omega
  have h1 : fillN (a ++ b).length = fillN b.length := by rw [List.length_append]; unfold fillN; omega
  unfold encB
  rw [h0, h1, body_join a b h, List.replicate_zero, List.append_nil, List.append_assoc]
end Go.Proofs.YtecljjkbadapeaaDoor
