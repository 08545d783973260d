/- The answers of the text dialect, as lists alone. Conditions: none. -/
import Derived.Test.YtnkfpiccfmdllaaDoorResV
import Derived.Lib.Join
import Derived.Lib.ItoaMem
namespace Go.Proofs.YtnkfpiccfmdllaaDoor
set_option linter.unusedVariables false

/-- What a status is called. -/
def wordL (s : Int) : List UInt8 :=
  if s = 1 then [78, 79, 84, 95, 70, 79, 85, 78, 68]
  else if s = 2 then [83, 84, 79, 82, 69, 68]
  else if s = 3 then [78, 79, 84, 95, 83, 84, 79, 82, 69, 68]
  else if s = 4 then [69, 88, 73, 83, 84, 83]
  else if s = 5 then [68, 69, 76, 69, 84, 69, 68]
  else if s = 6 then [84, 79, 85, 67, 72, 69, 68]
  else if s = 8 then [67, 76, 73, 69, 78, 84, 95, 69, 82, 82, 79, 82, 32, 99, 97, 110, 110, 111, 116, 32, 105, 110, 99, 114, 101, 109, 101, 110, 116, 32, 111, 114, 32, 100, 101, 99, 114, 101, 109, 101, 110, 116, 32, 110, 111, 110, 45, 110, 117, 109, 101, 114, 105, 99, 32, 118, 97, 108, 117, 101]
  else if s = 9 then [83, 69, 82, 86, 69, 82, 95, 69, 82, 82, 79, 82, 32, 111, 117, 116, 32, 111, 102, 32, 109, 101, 109, 111, 114, 121, 32, 115, 116, 111, 114, 105, 110, 103, 32, 111, 98, 106, 101, 99, 116]
  else if s = 10 then [79, 75]
  else if s = 11 then [86, 69, 82, 83, 73, 79, 78, 32, 49]
  else []
theorem wordL_1 : wordL 1 = [78, 79, 84, 95, 70, 79, 85, 78, 68] := by decide
theorem wordL_2 : wordL 2 = [83, 84, 79, 82, 69, 68] := by decide
theorem wordL_3 : wordL 3 = [78, 79, 84, 95, 83, 84, 79, 82, 69, 68] := by decide
theorem wordL_4 : wordL 4 = [69, 88, 73, 83, 84, 83] := by decide
theorem wordL_5 : wordL 5 = [68, 69, 76, 69, 84, 69, 68] := by decide
theorem wordL_6 : wordL 6 = [84, 79, 85, 67, 72, 69, 68] := by decide
theorem wordL_8 : wordL 8 = [67, 76, 73, 69, 78, 84, 95, 69, 82, 82, 79, 82, 32, 99, 97, 110, 110, 111, 116, 32, 105, 110, 99, 114, 101, 109, 101, 110, 116, 32, 111, 114, 32, 100, 101, 99, 114, 101, 109, 101, 110, 116, 32, 110, 111, 110, 45, 110, 117, 109, 101, 114, 105, 99, 32, 118, 97, 108, 117, 101] := by decide
theorem wordL_9 : wordL 9 = [83, 69, 82, 86, 69, 82, 95, 69, 82, 82, 79, 82, 32, 111, 117, 116, 32, 111, 102, 32, 109, 101, 109, 111, 114, 121, 32, 115, 116, 111, 114, 105, 110, 103, 32, 111, 98, 106, 101, 99, 116] := by decide
theorem wordL_10 : wordL 10 = [79, 75] := by decide
theorem wordL_11 : wordL 11 = [86, 69, 82, 83, 73, 79, 78, 32, 49] := by decide
theorem wordL_none {s : Int} (h : s < 1 ∨ s = 7 ∨ 11 < s) : wordL s = [] := by
  unfold wordL
  repeat rw [if_neg (by omega)]
theorem status_ways (s : Int) : (s < 1 ∨ s = 7 ∨ 11 < s) ∨ s = 1 ∨ s = 2 ∨ s = 3 ∨ s = 4 ∨ s = 5 ∨ s = 6 ∨ s = 8 ∨ s = 9 ∨ s = 10 ∨ s = 11 := by omega
theorem wordL_some {s : Int} (h1 : 1 ≤ s) (h2 : s ≤ 11) (h7 : s ≠ 7) : 1 < (wordL s).length := by
  rcases status_ways s with h | h | h | h | h | h | h | h | h | h | h
  · omega
  all_goals (subst h; decide)
theorem wordL_few (s : Int) : (wordL s).length ≤ 100 := by
  rcases status_ways s with h | h | h | h | h | h | h | h | h | h | h
  · rw [wordL_none h]; decide
  all_goals (subst h; decide)
/-- A number that is no status's own: 0 for those without a word. -/
def codeL (l : List UInt8) : Nat := l.length * 256 + (l.getD 0 0).toNat
theorem wordL_one {a b : Int} (h : wordL a = wordL b) : wordL a = [] ∨ a = b := by
  rcases status_ways a with ha | ha | ha | ha | ha | ha | ha | ha | ha | ha | ha
  · exact .inl (wordL_none ha)
  all_goals
    rcases status_ways b with hb | hb | hb | hb | hb | hb | hb | hb | hb | hb | hb
    · rw [wordL_none hb] at h
      exact .inl h
    all_goals
      first
        | exact .inr (ha.trans hb.symm)
        | (subst ha hb; exact absurd h (by decide))
/-- A number as its digits. -/
def showL (x : Int) : List UInt8 := Lib.decDigits x.toNat
def mkS (l : List UInt8) : ByteArray := ⟨l.toArray⟩
theorem mkS_list (l : List UInt8) : (mkS l).data.toList = l := by simp [mkS]
theorem mkS_size (l : List UInt8) : (mkS l).size = l.length := by show l.toArray.size = _; simp
def endL : List UInt8 := [13, 10]
def tailL : List UInt8 := [69, 78, 68]
/-- A line of some words. -/
def lineL (ws : List ByteArray) : List UInt8 := Lib.join (ws.map (·.data.toList)) [32] ++ endL
/-- The words ahead of a value. -/
def headW (k : ByteArray) (x : Rv) (c : Bool) : List ByteArray := [mkS [86, 65, 76, 85, 69], k, mkS (showL x.fl), mkS (showL x.val.length)] ++ (if c then [mkS (showL x.cas)] else [])
/-- What is told of one result. -/
def hitL (k : ByteArray) (x : Rv) (c : Bool) : List UInt8 := if x.s = 0 then lineL (headW k x c) ++ (x.val ++ endL) else []
def hitsL : List Cv → List Rv → Bool → List UInt8
  | c :: cs, x :: xs, b => hitL c.key x b ++ hitsL cs xs b
  | _, _, _ => []
/-- What came of a command that asks for no values. -/
def outL (x : Rv) : List UInt8 := if x.s = 7 then showL x.num ++ endL else if wordL x.s = [] then [] else wordL x.s ++ endL
/-- What is answered. -/
def encL (r : Qv) (l : List Rv) : List UInt8 :=
  match r.cmds, l with
  | c :: cs, x :: xs => if c.op = 0 ∨ c.op = 1 then hitsL r.cmds l r.form.wcas ++ (tailL ++ endL) else if c.op = 16 then [] else if r.form.quiet then [] else outL x
  | _, _ => []
theorem hitsL_nil (cs : List Cv) (b : Bool) : hitsL cs [] b = [] := by cases cs <;> rfl
theorem hitsL_snoc (b : Bool) (c : Cv) (x : Rv) : ∀ (cs : List Cv) (xs : List Rv), cs.length = xs.length → hitsL (cs ++ [c]) (xs ++ [x]) b = hitsL cs xs b ++ hitL c.key x b
  | [], [], _ => by simp [hitsL]
  | d :: cs, y :: xs, h => by
    have := hitsL_snoc b c x cs xs (by simpa using h)
    simp only [List.cons_append, hitsL, this, List.append_assoc]
  | [], _ :: _, h => by simp at h
  | _ :: _, [], h => by simp at h
theorem hitsL_take (b : Bool) : ∀ (cs : List Cv) (xs : List Rv) (n : Nat), min cs.length xs.length ≤ n → hitsL (cs.take n) (xs.take n) b = hitsL cs xs b
  | [], xs, n, h => by simp [hitsL]
  | c :: cs, [], n, h => by simp [hitsL_nil]
  | c :: cs, x :: xs, 0, h => by simp at h
  | c :: cs, x :: xs, n + 1, h => by
    simp only [List.take_succ_cons, hitsL]
    rw [hitsL_take b cs xs n (by simp only [List.length_cons] at h; omega)]
/-- One command more. -/
theorem hitsL_next (b : Bool) {cs : List Cv} {xs : List Rv} {k : Nat} (h1 : k < cs.length) (h2 : k < xs.length) : hitsL (cs.take (k + 1)) (xs.take (k + 1)) b = hitsL (cs.take k) (xs.take k) b ++ hitL cs[k].key xs[k] b := by
  rw [List.take_succ_eq_append_getElem h1, List.take_succ_eq_append_getElem h2]
  exact hitsL_snoc b _ _ _ _ (by simp only [List.length_take]; omega)
theorem showL_len {x : Int} (h0 : 0 ≤ x) (h1 : x < 18446744073709551616) : (showL x).length ≤ 20 ∧ 1 ≤ (showL x).length := by
  unfold showL
  rw [Lib.decDigits_length]
  have := Lib.nDigits_pos x.toNat
  refine ⟨?_, this⟩
  by_cases h : x.toNat = 0
  · rw [h, Lib.nDigits_small (by decide)]; decide
  · have := Lib.numDigits_eq x.toNat (by omega) (by omega); split at this <;> omega
theorem lineL_eq (x : ByteArray) (r : List ByteArray) : lineL (x :: r) = x.data.toList ++ Lib.joinTail [32] (r.map (·.data.toList)) ++ endL := by
  unfold lineL
  rw [List.map_cons, Lib.join_cons]
/-- The line ahead of a value, word by word. -/
theorem headL_eq (k : ByteArray) (x : Rv) (c : Bool) : lineL (headW k x c) = [86, 65, 76, 85, 69, 32] ++ k.data.toList ++ [32] ++ showL x.fl ++ [32] ++ showL x.val.length ++ (if c then [32] ++ showL x.cas else []) ++ endL := by
  unfold headW
  rw [show ([mkS [86, 65, 76, 85, 69], k, mkS (showL x.fl), mkS (showL x.val.length)] ++ (if c then [mkS (showL x.cas)] else []) : List ByteArray) = mkS [86, 65, 76, 85, 69] :: ([k, mkS (showL x.fl), mkS (showL x.val.length)] ++ (if c then [mkS (showL x.cas)] else [])) from rfl, lineL_eq]
  cases c <;> simp [Lib.joinTail, mkS_list]
theorem headL_len (k : ByteArray) {x : Rv} (hx : x.ok) (hv : x.val.length ≤ 2000) (c : Bool) : (lineL (headW k x c)).length ≤ k.size + 80 := by
  rw [headL_eq]
  have h1 := (showL_len hx.f0 (by have := hx.f1; omega)).1
  have h2 := (showL_len (x := (x.val.length : Int)) (by omega) (by omega)).1
  have h3 := (showL_len hx.c0 hx.c1).1
  have e : k.data.toList.length = k.size := by rw [Array.length_toList]; rfl
  cases c <;> simp only [List.length_append, List.length_cons, List.length_nil, endL, Bool.false_eq_true, if_true, if_false] <;> omega
theorem hitL_len (k : ByteArray) {x : Rv} (hx : x.ok) (hk : k.size ≤ 1000) (hv : x.val.length ≤ 2000) (c : Bool) : (hitL k x c).length ≤ 3100 := by
  unfold hitL
  split
  · have := headL_len k hx hv c
    simp only [List.length_append, endL, List.length_cons, List.length_nil]
    omega
  · simp
theorem hitsL_len (b : Bool) : ∀ (cs : List Cv) (xs : List Rv), (∀ c ∈ cs, c.key.size ≤ 1000) → (∀ x ∈ xs, x.ok ∧ x.val.length ≤ 2000) → (hitsL cs xs b).length ≤ 3100 * cs.length
  | [], xs, _, _ => by simp [hitsL]
  | c :: cs, [], _, _ => by simp [hitsL_nil]
  | c :: cs, x :: xs, h1, h2 => by
    have hx := h2 x List.mem_cons_self
    have h3 := hitL_len c.key hx.1 (h1 c List.mem_cons_self) hx.2 b
    have h4 := hitsL_len b cs xs (fun d hd => h1 d (List.mem_cons_of_mem _ hd)) (fun y hy => h2 y (List.mem_cons_of_mem _ hy))
    simp only [hitsL, List.length_append, List.length_cons]
    omega
end Go.Proofs.YtnkfpiccfmdllaaDoor
