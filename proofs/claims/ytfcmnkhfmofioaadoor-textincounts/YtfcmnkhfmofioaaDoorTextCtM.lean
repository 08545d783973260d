/- Lines whose numbers are written as digits: what is parsed of them. Conditions: none. -/
import Derived.Test.YtfcmnkhfmofioaaDoorTextQuM
import Derived.Test.YtfcmnkhfmofioaaDoorG12Joined
namespace Go.Proofs.YtfcmnkhfmofioaaDoor
set_option linter.unusedVariables false

theorem digit_in (n : Nat) : ∀ c ∈ Lib.decDigits n, 48 ≤ c.toNat ∧ c.toNat ≤ 57 := by
  induction n using Nat.strongRecOn with
  | _ n ih =>
    intro c hc
    by_cases h : n < 10
    · rw [Lib.decDigits_one h] at hc
      obtain rfl : c = UInt8.ofNat (48 + n) := by simpa using hc
      rw [UInt8.toNat_ofNat']
      omega
    · rw [Lib.decDigits, dif_neg h] at hc
      rcases List.mem_append.1 hc with h1 | h1
      · exact ih (n / 10) (by omega) c h1
      · obtain rfl : c = UInt8.ofNat (48 + n % 10) := by simpa using h1
        rw [UInt8.toNat_ofNat']
        omega
theorem digit_no (n : Nat) {d : UInt8} (hd : d.toNat < 48) : d ∉ Lib.decDigits n := fun h => by have := digit_in n d h; omega
theorem wd_plain : ∀ (x cur : List UInt8), (32 : UInt8) ∉ x → cur ++ x ≠ [] → wd cur x = [cur ++ x]
  | [], cur, _, h => by
    rw [List.append_nil] at h ⊢
    simp only [wd, if_neg h]
  | c :: x, cur, hn, h => by
    have hc : c ≠ 32 := fun e => hn (by rw [e]; exact List.mem_cons_self)
    simp only [wd, if_neg hc]
    rw [wd_plain x (cur ++ [c]) (fun hm => hn (List.mem_cons_of_mem _ hm)) (by simp)]
    simp
theorem wd_word {x : List UInt8} (hn : (32 : UInt8) ∉ x) (h : x ≠ []) : wd [] x = [x] := by
  rw [wd_plain x [] hn (by simpa using h)]
  rfl
theorem wordsL_wd (x : List UInt8) : wordsL x = wd [] x := by unfold wordsL restL; simp
def t_k : List UInt8 := [107]
def t_0 : List UInt8 := [48]
/-- The three lines. -/
def ctA (d : Nat) : List UInt8 := vb_incr ++ 32 :: (t_k ++ 32 :: Lib.decDigits d)
def ctB (f e : Nat) : List UInt8 := vb_set ++ 32 :: (t_k ++ 32 :: (Lib.decDigits f ++ 32 :: (Lib.decDigits e ++ 32 :: t_0)))
def ctC (d : Nat) : List UInt8 := vb_cas ++ 32 :: (t_k ++ 32 :: (t_0 ++ 32 :: (t_0 ++ 32 :: (t_0 ++ 32 :: Lib.decDigits d))))
theorem wd_digits (n : Nat) : wd [] (Lib.decDigits n) = [Lib.decDigits n] := wd_word (digit_no n (by decide)) (digits_ne n)
theorem words_A (d : Nat) : wordsL (ctA d) = [vb_incr, t_k, Lib.decDigits d] := by
  rw [wordsL_wd, ctA, wd_join, wd_join, wd_digits]
  rfl
theorem words_B (f e : Nat) : wordsL (ctB f e) = [vb_set, t_k, Lib.decDigits f, Lib.decDigits e, t_0] := by
  rw [wordsL_wd, ctB, wd_join, wd_join, wd_join, wd_join, wd_digits, wd_digits]
  rfl
theorem words_C (d : Nat) : wordsL (ctC d) = [vb_cas, t_k, t_0, t_0, t_0, Lib.decDigits d] := by
  rw [wordsL_wd, ctC, wd_join, wd_join, wd_join, wd_join, wd_join, wd_digits]
  rfl
theorem sgn_show (n : Nat) (hn : n < 4294967296) : sgn (Lib.decDigits n) = some (n : Int) := by
  have h45 : (Lib.decDigits n).head? ≠ some 45 := fun e => digit_no n (d := 45) (by decide) (List.mem_of_head? e)
  unfold sgn small40
  rw [if_neg h45, dec_show n (by omega)]
  simp
  omega
theorem readA (d : Nat) (hd : d < 18446744073709551616) : readN [vb_incr, t_k, Lib.decDigits d] = (⟨vb_incr, 1, false, false, [t_k], 10, [], 0, 0, 0, d, 0, false⟩, []) := by
  have h1 : readN [vb_incr, t_k, Lib.decDigits d] = largeN (runR [0, 2] [t_k, Lib.decDigits d] (begun vb_incr) []) := rfl
  have h2 : runR [0, 2] [t_k, Lib.decDigits d] (begun vb_incr) [] = runR [2] [Lib.decDigits d] ⟨vb_incr, 1, false, false, [t_k], 10, [], 0, 0, 0, 0, 0, false⟩ [] := rfl
  have hd' : d ≤ 18446744073709551615 := by omega
  rw [h1, h2]
  simp only [runR, readW, dec_show d hd, mostK, keepK]
  simp [largeN, hd']
theorem readB (f e : Nat) (hf : f < 4294967296) (he : e < 4294967296) : readN [vb_set, t_k, Lib.decDigits f, Lib.decDigits e, t_0] = (⟨vb_set, 1, false, false, [t_k], 3, [], f, e, 0, 0, 0, true⟩, []) := by
  have h1 : readN [vb_set, t_k, Lib.decDigits f, Lib.decDigits e, t_0] = largeN (runR [0, 3, 1, 4] [t_k, Lib.decDigits f, Lib.decDigits e, t_0] (begun vb_set) []) := rfl
  have h2 : runR [0, 3, 1, 4] [t_k, Lib.decDigits f, Lib.decDigits e, t_0] (begun vb_set) [] = runR [3, 1, 4] [Lib.decDigits f, Lib.decDigits e, t_0] ⟨vb_set, 1, false, false, [t_k], 3, [], 0, 0, 0, 0, 0, false⟩ [] := rfl
  have h3 : dec t_0 = some 0 := by kernel_rfl
  have hf' : f ≤ 4294967295 := by omega
  rw [h1, h2]
  simp only [runR, readW, dec_show f (by omega), sgn_show e he, h3, mostK, keepK]
  simp [largeN, hf']
theorem readC (d : Nat) (hd : d < 18446744073709551616) : readN [vb_cas, t_k, t_0, t_0, t_0, Lib.decDigits d] = (⟨vb_cas, 1, false, false, [t_k], 3, [], 0, 0, d, 0, 0, true⟩, []) := by
  have h1 : readN [vb_cas, t_k, t_0, t_0, t_0, Lib.decDigits d] = largeN (runR [0, 3, 1, 4, 5] [t_k, t_0, t_0, t_0, Lib.decDigits d] (begun vb_cas) []) := rfl
  have h2 : runR [0, 3, 1, 4, 5] [t_k, t_0, t_0, t_0, Lib.decDigits d] (begun vb_cas) [] = runR [5] [Lib.decDigits d] ⟨vb_cas, 1, false, false, [t_k], 3, [], 0, 0, 0, 0, 0, true⟩ [] := by rfl
  have hd' : d ≤ 18446744073709551615 := by omega
  rw [h1, h2]
  simp only [runR, readW, dec_show d hd, mostK, keepK]
  simp [largeN, hd']
def cmA (d : Nat) : Cv := ⟨10, mkB t_k, [], 0, 0, 0, d, 0, false, false⟩
def cmB (f e : Nat) : Cv := ⟨3, mkB t_k, [], f, e, 0, 0, 0, false, false⟩
def cmCas (d : Nat) : Cv := ⟨3, mkB t_k, [], 0, 0, d, 0, 0, false, false⟩
theorem mem3 {a x y : List UInt8} {c : UInt8} (hc : c ≠ 32) (h1 : c ∉ x) (h2 : c ∉ y) : c ∉ x ++ 32 :: y := by
  intro h
  rcases List.mem_append.1 h with h | h
  · exact h1 h
  · rcases List.mem_cons.1 h with h | h
    · exact hc h
    · exact h2 h
theorem no10 (n : Nat) : (10 : UInt8) ∉ Lib.decDigits n := digit_no n (by decide)
theorem len_A (d : Nat) (hd : d < 18446744073709551616) : (10 : UInt8) ∉ ctA d ∧ (ctA d).length ≤ 2048 := by
  have := digits_len d hd
  refine ⟨mem3 (a := []) (by decide) (by decide) (mem3 (a := []) (by decide) (by decide) (no10 d)), by simp [ctA, vb_incr, t_k]; omega⟩
theorem len_B (f e : Nat) (hf : f < 4294967296) (he : e < 4294967296) : (10 : UInt8) ∉ ctB f e ∧ (ctB f e).length ≤ 2048 := by
  have := digits_len f (by omega)
  have := digits_len e (by omega)
  refine ⟨mem3 (a := []) (by decide) (by decide) (mem3 (a := []) (by decide) (by decide) (mem3 (a := []) (by decide) (no10 f) (mem3 (a := []) (by decide) (no10 e) (by decide)))), by simp [ctB, vb_set, t_k, t_0]; omega⟩
theorem len_C (d : Nat) (hd : d < 18446744073709551616) : (10 : UInt8) ∉ ctC d ∧ (ctC d).length ≤ 2048 := by
  have := digits_len d hd
  refine ⟨mem3 (a := []) (by decide) (by decide) (mem3 (a := []) (by decide) (by decide) (mem3 (a := []) (by decide) (by decide) (mem3 (a := []) (by decide) (by decide) (mem3 (a := []) (by decide) (by decide) (no10 d))))), by simp [ctC, vb_cas, t_k, t_0]; omega⟩
theorem parse_A (d : Nat) (hd : d < 18446744073709551616) : (parseN (ctA d ++ [13, 10])).req.cmds = [cmA d] := by
  rw [parse_crlf [] (len_A d hd).1 (len_A d hd).2, words_A]
  unfold lineS
  rw [readA d hd]
  rfl
theorem parse_B (f e : Nat) (hf : f < 4294967296) (he : e < 4294967296) : (parseN (ctB f e ++ [13, 10, 13, 10])).req.cmds = [cmB f e] := by
  rw [parse_crlf [13, 10] (len_B f e hf he).1 (len_B f e hf he).2, words_B]
  unfold lineS
  rw [readB f e hf he]
  rfl
theorem parse_C (d : Nat) (hd : d < 18446744073709551616) : (parseN (ctC d ++ [13, 10, 13, 10])).req.cmds = [cmCas d] := by
  rw [parse_crlf [13, 10] (len_C d hd).1 (len_C d hd).2, words_C]
  unfold lineS
  rw [readC d hd]
  rfl
end Go.Proofs.YtfcmnkhfmofioaaDoor
