/- Commands on a shard of lists: what chapter 12 says of them. Nothing of the program is run here. Conditions: none. What follows of commands on a shard of lists, one behind the other. Nothing of the program is run here. Conditions: none. What commands on a shard of lists come to, one behind the other: what the statements of layer 12 ask of them. Nothing of the program is run here. Conditions: none. The commands of each statement of layer 12, one behind the other, on a shard of lists. Nothing of the program is run here. Conditions: none. -/
import Derived.Test.YtkfeafmpaodagaaGreatDoorG45Joined
import Derived.Test.YtkfeafmpaodagaaGreatDoorG54Joined
namespace Go.Proofs.YtkfeafmpaodagaaGreatDoor
open Go.RowKit

def stR (e cas : Int) : Rv := if e = 0 then ⟨2, [], 0, cas, 0, 0, false, false, false⟩ else if e = 8 then onlyR 3 else onlyR 9
def putR (sd : Nat) (h : Hs) (key : ByteArray) (v : List UInt8) (fl exp : Int) (en : En) : Rv × Hs :=
  (stR (storeH sd h (newI key v fl exp en) en).1 (nextU en.seq), (storeH sd h (newI key v fl exp en) en).2)
def numberR (r : Rv × Hs) (n : Int) : Rv × Hs := if r.1.s = 2 then ({ r.1 with s := 7, num := n }, r.2) else r
def showB (n : Int) : List UInt8 := Lib.decDigits n.toNat
/-- What is done without an item: P12.2 to P12.6. -/
def makesR (sd : Nat) (h : Hs) (c : Cv) (en : En) : Rv × Hs :=
  if c.op = 3 then (if c.cas = 0 then putR sd h c.key c.val c.fl (atW c.exp en.now) en else (onlyR 1, h))
  else if c.op = 4 then putR sd h c.key c.val c.fl (atW c.exp en.now) en
  else if c.op = 5 ∨ c.op = 6 ∨ c.op = 7 then (onlyR 3, h)
  else if c.op = 10 ∨ c.op = 11 then (if c.makes then numberR (putR sd h c.key (showB c.ini) 0 (atW c.exp en.now) en) c.ini else (onlyR 1, h))
  else if c.op = 12 then (if c.makes then
      (if (storeH sd h (newI c.key [] 0 (atW c.exp en.now) en) en).1 = 0 then
        ({ viewR (newI c.key [] 0 (atW c.exp en.now) en) en with won := true }, updH (storeH sd h (newI c.key [] 0 (atW c.exp en.now) en) en).2 { newI c.key [] 0 (atW c.exp en.now) en with won := true })
      else (onlyR 1, (storeH sd h (newI c.key [] 0 (atW c.exp en.now) en) en).2))
    else (onlyR 1, h))
  else (onlyR 1, h)
def getsI (c : Cv) (en : En) (i : Iv) : Iv := { i with exp := if c.op = 0 then i.exp else atW c.exp en.now, seen := if c.op = 2 then i.seen else true }
def metaI (c : Cv) (en : En) (i : Iv) : Iv := { i with exp := if c.sets then atW c.exp en.now else i.exp, seen := true }
def staleI (c : Cv) (en : En) (i : Iv) : Iv := { i with st := true, won := false, cas := nextU en.seq, exp := if c.sets then atW c.exp en.now else i.exp }
def joinV (c : Cv) (i : Iv) : List UInt8 := if c.op = 7 then c.val ++ i.val else i.val ++ c.val
def reckN (c : Cv) (n : Int) : Int := if c.op = 10 then (n + c.del) % 18446744073709551616 else if n < c.del then 0 else n - c.del
/-- What is done with one. -/
def hasR (sd : Nat) (h : Hs) (c : Cv) (en : En) (i : Iv) : Rv × Hs :=
  if c.op = 0 ∨ c.op = 1 then (viewR (getsI c en i) en, updH h (getsI c en i))
  else if c.op = 2 then (onlyR 6, updH h (getsI c en i))
  else if c.op = 12 then ({ viewR (metaI c en i) en with lost := i.won, won := !i.won && i.st }, updH h { metaI c en i with won := i.won || i.st })
  else if c.op = 4 then (onlyR 3, h)
  else if c.cas ≠ 0 ∧ c.cas ≠ i.cas then (onlyR 4, h)
  else if c.op = 3 ∨ c.op = 5 then putR sd h c.key c.val c.fl (atW c.exp en.now) en
  else if c.op = 6 ∨ c.op = 7 then (if 1000 < i.val.length + c.val.length then (onlyR 9, h) else putR sd h c.key (joinV c i) i.fl i.exp en)
  else if c.op = 8 then (onlyR 5, removeH h c.key)
  else if c.op = 9 then (onlyR 5, updH h (staleI c en i))
  else match dec i.val with
    | none => (onlyR 8, h)
    | some n => if 20 < i.val.length then (onlyR 8, h) else numberR (putR sd h c.key (showB (reckN c n)) i.fl i.exp en) (reckN c n)
def keyedN (op : Int) : Bool := decide (0 ≤ op ∧ op ≤ 12)
def storesN (op : Int) : Bool := decide ((3 ≤ op ∧ op ≤ 7) ∨ op = 10 ∨ op = 11 ∨ op = 12)
def seenH (sd : Nat) (h : Hs) (k : ByteArray) (en : En) : Hs := useH sd (lookH h k en) k
def doH (sd : Nat) (h : Hs) (c : Cv) (en : En) : Rv × Hs :=
  if c.op = 15 then (onlyR 11, h)
  else if keyedN c.op then
    match livingH h c.key en with
    | none => makesR sd (seenH sd h c.key en) c en
    | some e => hasR sd (seenH sd h c.key en) c en e.1
  else (onlyR 10, h)
end Go.Proofs.YtkfeafmpaodagaaGreatDoor

namespace Go.Proofs.YtkfeafmpaodagaaGreatDoor
set_option linter.unusedVariables false
open Go.RowKit

theorem store_bud {n : Nat} {st : Hs} (g : GoodH n st) (sd : Nat) (i : Iv) (en : En) : (storeH sd st i en).2.slab.bud = st.slab.bud := by
  unfold storeH
  by_cases hsz : 2048 < sizeI i
  · rw [if_pos hsz]
  · rw [if_neg hsz]
    have gl := goodH_look g i.key en
    obtain ⟨rm, _, _⟩ := room_good sd i (livingH st i.key en) en _ _ rfl gl
    have hbud : (roomH sd i (livingH st i.key en) en (lookH st i.key en)).2.slab.bud = st.slab.bud := rm.bud.trans look_drops.2.1
    by_cases h0 : (roomH sd i (livingH st i.key en) en (lookH st i.key en)).1 = 0
    · rw [if_pos h0]
      show (takeS (freedH _ _) _).bud = _
      rw [take_bud]
      unfold freedH
      split
      · exact hbud
      · exact (free_bud _ _).trans hbud
    · rw [if_neg h0]
      exact hbud
theorem remove_bud (st : Hs) (k : ByteArray) : (removeH st k).slab.bud = st.slab.bud := by
  unfold removeH
  split
  · rfl
  · exact free_bud _ _
theorem upd_bud (st : Hs) (i : Iv) : (updH st i).slab.bud = st.slab.bud := by
  unfold updH
  split
  · rfl
  · split <;> rfl
section
variable {n sd : Nat} {h : Hs} {k s : ByteArray} {en : En} {i j : Iv}
theorem seen_find (sd : Nat) (h : Hs) (k : ByteArray) (en : En) : findE k (seenH sd h k en).ents = livingH h k en := (living_look h k en).symm
theorem good_seen (g : GoodH n h) (sd : Nat) (k : ByteArray) (en : En) : GoodH n (seenH sd h k en) := goodH_use (goodH_look g k en) sd k
theorem seen_bud (sd : Nat) (h : Hs) (k : ByteArray) (en : En) : (seenH sd h k en).slab.bud = h.slab.bud := look_drops.2.1
theorem look_other (g : GoodH n h) (hs : s ≠ k) (en : En) : findE s (lookH h k en).ents = findE s h.ents := by
  unfold lookH
  split
  · rfl
  · rename_i e hf
    split
    · rfl
    · exact find_drop_other g hf hs
/-- A key has an item. -/
def HasI (h : Hs) (k : ByteArray) (i : Iv) : Prop := ∃ ck, findE k h.ents = some (i, ck)
theorem HasI.key (H : HasI h k i) : i.key = k := by
  obtain ⟨ck, hf⟩ := H
  exact (findE_some hf).2
theorem HasI.living (H : HasI h k i) (hl : liveI i en = true) : ∃ ck, livingH h k en = some (i, ck) := by
  obtain ⟨ck, hf⟩ := H
  exact ⟨ck, by unfold livingH; rw [hf]; exact if_pos hl⟩
theorem HasI.dead (H : HasI h k i) (hl : liveI i en = false) : livingH h k en = none := by
  obtain ⟨ck, hf⟩ := H
  unfold livingH
  rw [hf]
  exact if_neg (by rw [hl]; exact Bool.false_ne_true)
theorem HasI.seen (H : HasI h k i) (sd : Nat) (hl : liveI i en = true) : HasI (seenH sd h k en) k i := by
  obtain ⟨ck, hf⟩ := H.living hl
  exact ⟨ck, by rw [seen_find, hf]⟩
theorem HasI.upd (g : GoodH n h) (H : HasI h k i) (hk : j.key = k) (hl : j.val.length = i.val.length) : HasI (updH h j) k j := by
  obtain ⟨ck, hf⟩ := H
  refine ⟨ck, ?_⟩
  unfold updH
  rw [hk, hf]
  dsimp only
  rw [if_pos hl]
  subst hk
  exact find_put g.rise (j, ck)
theorem living_none (hf : findE k h.ents = none) : livingH h k en = none := by unfold livingH; rw [hf]
theorem living_congr {h' : Hs} (hf : findE k h.ents = findE k h'.ents) : livingH h k en = livingH h' k en := by unfold livingH; rw [hf]
theorem upd_other (g : GoodH n h) (hk : k ≠ j.key) : findE k (updH h j).ents = findE k h.ents := by
  unfold updH
  split
  · rfl
  · split
    · exact find_put_other g.rise hk
    · rfl
/-- What was stored is there. -/
theorem store_has (g : GoodH n h) (h0 : (storeH sd h i en).1 = 0) : HasI (storeH sd h i en).2 i.key i ∧ sizeI i ≤ 2048 := by
  unfold storeH at h0 ⊢
  by_cases hsz : 2048 < sizeI i
  · rw [if_pos hsz] at h0
    exact absurd (show (4 : Int) = 0 from h0) (by decide)
  · rw [if_neg hsz] at h0 ⊢
    have gl := goodH_look g i.key en
    obtain ⟨rm, _, _⟩ := room_good sd i (livingH h i.key en) en _ _ rfl gl
    by_cases hr : (roomH sd i (livingH h i.key en) en (lookH h i.key en)).1 = 0
    · rw [if_pos hr]
      exact ⟨⟨_, find_put rm.good.rise (i, takeCk (freedH _ _) (sizeI i))⟩, by omega⟩
    · rw [if_neg hr] at h0
      exact absurd h0 hr
theorem bytes_most (s : Int) : 0 ≤ bytesC (clsOf s) ∧ bytesC (clsOf s) ≤ 2048 := by
  unfold clsOf bytesC
  repeat' split
  all_goals omega
theorem bytes_512 {s : Int} (h : s ≤ 512) : bytesC (clsOf s) ≤ 512 := by
  unfold clsOf bytesC
  repeat' split
  all_goals omega
theorem one_ent {l : List Ent} (hr : RisingE l) {e : Ent} (he : e ∈ l) (h : ∀ x ∈ l, x.1.key = e.1.key) : l = [e] := by
  match l, hr, he, h with
  | [x], _, he, _ => rw [List.mem_singleton.1 he]
  | x :: y :: l, hr, _, h =>
    have := (List.pairwise_cons.1 hr).1 y (List.mem_cons_self ..)
    exact absurd ((h x (List.mem_cons_self ..)).trans (h y (List.mem_cons_of_mem _ (List.mem_cons_self ..))).symm) (ltK_ne this)
theorem room_over (sd : Nat) (i : Iv) (e : Ent) (en : En) : ∀ (m : Nat) (h : Hs), h.ents.length = m → GoodH n h → findE i.key h.ents = some e → sizeI i ≤ 2048 → bytesC (clsOf (sizeI i)) ≤ h.slab.bud → (roomH sd i (some e) en h).1 = 0 := by
  intro m
  induction m with
  | zero =>
    intro h hm _ hf
    have := List.length_pos_of_mem (findE_some hf).1
    omega
  | succ m ih =>
    intro h hm g hf hsz hb
    rcases room_cases g sd i (some e) en with ⟨_, hr⟩ | ⟨hno, ⟨hv, _⟩ | ⟨v, x, hv, he, hne, _, ⟨_, hx, _⟩ | ⟨_, hr⟩⟩⟩
    · rw [hr]
    · exfalso
      obtain ⟨hm1, hk⟩ := findE_some hf
      have hall := vic_none_all hv
      have h1 : h.ents = [e] := one_ent g.rise hm1 fun x hx => by rw [hk]; exact hall _ (g.keys.mem_iff.2 (List.mem_map.2 ⟨x, hx, rfl⟩))
      have hc := g.chunks
      rw [h1] at hc
      have h2 : h.slab.inn = [e.2] := List.perm_singleton.1 hc.symm
      have hu : usedS h.slab = bytesC e.2.1 := by
        show sumB h.slab.inn = _
        rw [h2, sumB_cons]
        simp [sumB]
      have hcl := (g.cls e hm1).2.2
      have h3 := bytes_most (sizeI e.1)
      rw [← hcl] at h3
      have h4 := bytes_most (sizeI i)
      have : fitsS h.slab (sizeI i) (lessH (some e)) = true := decide_eq_true ⟨hsz, h3.1, by rw [hu]; exact Int.le_refl _, by rw [hu]; show bytesC e.2.1 - bytesC e.2.1 + _ ≤ _; omega⟩
      rw [this] at hno
      cases hno
    · cases hx
    · rw [hr]
      obtain ⟨g1, hl, _⟩ := goodH_drop g he
      exact ih _ (by omega) g1 ((find_drop_other g he fun e => hne e.symm).trans hf) hsz (by rw [drop_found he]; show _ ≤ (freeS _ _).bud; rw [free_bud]; exact hb)
/-- In the place of what lives there is always room. -/
theorem store_over (g : GoodH n h) {i' : Iv} (H : HasI h i.key i') (hl : liveI i' en = true) (hsz : sizeI i ≤ 2048) (hb : bytesC (clsOf (sizeI i)) ≤ h.slab.bud) : (storeH sd h i en).1 = 0 := by
  obtain ⟨ck, hf⟩ := H
  have h1 : livingH h i.key en = some (i', ck) := by unfold livingH; rw [hf]; exact if_pos hl
  have h2 : lookH h i.key en = h := by unfold lookH; rw [hf]; exact if_pos hl
  unfold storeH
  rw [if_neg (by omega), h1, h2, if_pos (room_over sd i _ en _ h rfl g hf hsz hb)]
end
/-- What a command leaves is a shard. -/
theorem number_snd (r : Rv × Hs) (n : Int) : (numberR r n).2 = r.2 := by unfold numberR; split <;> rfl
theorem put_snd (sd : Nat) (h : Hs) (key : ByteArray) (v : List UInt8) (fl exp : Int) (en : En) : (putR sd h key v fl exp en).2 = (storeH sd h (newI key v fl exp en) en).2 := rfl
theorem at_i64 {exp now : Int} (he : I64 exp) (hn : I64 now) : I64 (atW exp now) := by
  unfold I64 at *
  unfold atW
  repeat' split
  all_goals first | omega | (unfold wrap64; omega)
theorem reck_u64 {c : Cv} (hc : U64 c.del) {n : Int} (hn : U64 n) : U64 (reckN c n) := by
  unfold U64 at *
  unfold reckN
  repeat' split
  all_goals omega
theorem new_ok {key : ByteArray} {v : List UInt8} {fl exp : Int} {en : En} (hk : key.size ≤ 140737488351232) (hv : v.length ≤ 140737488351232) (he : I64 exp) (hen : en.ok) : (newI key v fl exp en).ok := ⟨hk, hv, he, hen.now, hen.seq⟩
theorem dec_u64 {l : List UInt8} {n : Nat} (h : dec l = some n) : U64 n := by
  unfold dec at h
  split at h
  · cases h
  · split at h
    · rename_i u hu
      cases h
      have := Lib.parseUintB_le hu
      exact ⟨Int.natCast_nonneg _, by have : (2 : Nat) ^ 64 - 1 = 18446744073709551615 := by decide
                                      omega⟩
    · cases h
end Go.Proofs.YtkfeafmpaodagaaGreatDoor

namespace Go.Proofs.YtkfeafmpaodagaaGreatDoor
set_option linter.unusedVariables false
open Go.RowKit

section
variable {n sd : Nat} {h : Hs} {k : ByteArray} {en : En} {i : Iv} {c : Cv} {ck : Ck}
theorem show_len {x : Int} (hx : U64 x) : (showB x).length ≤ 20 := digits_len _ (by unfold U64 at hx; omega)
set_option maxHeartbeats 1000000 in
theorem good_do (g : GoodH n h) (sd : Nat) (hc : c.ok) (hen : en.ok) (hl : n ≤ 900 ∨ h.slab.bud ≤ 57600) : GoodH (n + 1) (doH sd h c en).2 ∧ (doH sd h c en).2.slab.bud = h.slab.bud := by
  have hm : ∀ {h' : Hs}, GoodH n h' → h'.slab.bud = h.slab.bud → GoodH (n + 1) h' ∧ h'.slab.bud = h.slab.bud := fun g' hb => ⟨goodH_mono g' (Nat.le_succ n) (by rw [hb]; exact hl.imp Nat.succ_le_succ id), hb⟩
  have gs := good_seen g sd c.key en
  have bs := seen_bud sd h c.key en
  have hl' : n ≤ 900 ∨ (seenH sd h c.key en).slab.bud ≤ 57600 := by rw [bs]; exact hl
  have hx := at_i64 hc.exp hen.now
  have hst : ∀ {v : List UInt8} {fl exp : Int}, v.length ≤ 140737488351232 → I64 exp → GoodH (n + 1) (storeH sd (seenH sd h c.key en) (newI c.key v fl exp en) en).2 ∧ (storeH sd (seenH sd h c.key en) (newI c.key v fl exp en) en).2.slab.bud = h.slab.bud := fun hv he => ⟨goodH_store gs sd (new_ok hc.key hv he hen) en hl', (store_bud gs sd _ en).trans bs⟩
  have hup : ∀ {j : Iv}, j.ok → GoodH n (updH (seenH sd h c.key en) j) ∧ (updH (seenH sd h c.key en) j).slab.bud = h.slab.bud := fun hj => ⟨goodH_upd gs hj, (upd_bud _ _).trans bs⟩
  have h20 : ∀ {x : Int}, U64 x → (showB x).length ≤ 140737488351232 := fun hx => Nat.le_trans (show_len hx) (by decide)
  unfold doH
  split
  · exact hm g rfl
  · split
    · split
      · unfold makesR
        split
        · split
          · exact hst hc.val hx
          · exact hm gs bs
        · split
          · exact hst hc.val hx
          · split
            · exact hm gs bs
            · split
              · split
                · rw [number_snd]
                  exact hst (h20 hc.ini) hx
                · exact hm gs bs
              · split
                · split
                  · have hw := hst (v := []) (fl := 0) (Nat.zero_le _) hx
                    split
                    · refine ⟨goodH_upd hw.1 ?_, (upd_bud _ _).trans hw.2⟩
                      have := new_ok (fl := 0) (v := []) hc.key (Nat.zero_le _) hx hen
                      exact ⟨this.key, this.val, this.exp, this.sec, this.seq⟩
                    · exact hw
                  · exact hm gs bs
                · exact hm gs bs
      · rename_i e hlv
        have he : e ∈ (seenH sd h c.key en).ents := (findE_some ((seen_find sd h c.key en).trans hlv)).1
        have hi := (gs.cls e he).1
        have h1 : (getsI c en e.1).ok := ⟨hi.key, hi.val, by unfold getsI; dsimp only; split; exact hi.exp; exact hx, hi.sec, hi.seq⟩
        have h2 : (metaI c en e.1).ok := ⟨hi.key, hi.val, by unfold metaI; dsimp only; split; exact hx; exact hi.exp, hi.sec, hi.seq⟩
        have h3 : (staleI c en e.1).ok := ⟨hi.key, hi.val, by unfold staleI; dsimp only; split; exact hx; exact hi.exp, hi.sec, hi.seq⟩
        unfold hasR
        split
        · exact hm (hup h1).1 (hup h1).2
        · split
          · exact hm (hup h1).1 (hup h1).2
          · split
            · have h4 : ({ metaI c en e.1 with won := e.1.won || e.1.st } : Iv).ok := ⟨h2.key, h2.val, h2.exp, h2.sec, h2.seq⟩
              exact hm (hup h4).1 (hup h4).2
            · split
              · exact hm gs bs
              · split
                · exact hm gs bs
                · split
                  · exact hst hc.val hx
                  · split
                    · split
                      · exact hm gs bs
                      · refine hst ?_ hi.exp
                        have : (joinV c e.1).length = e.1.val.length + c.val.length := by unfold joinV; split <;> rw [List.length_append] <;> omega
                        have hk : (1000 : Nat) ≤ 140737488351232 := by decide
                        omega
                    · split
                      · exact hm (goodH_remove gs _) ((remove_bud _ _).trans bs)
                      · split
                        · exact hm (hup h3).1 (hup h3).2
                        · split
                          · exact hm gs bs
                          · rename_i x hd
                            split
                            · exact hm gs bs
                            · rw [number_snd]
                              exact hst (h20 (reck_u64 hc.del (dec_u64 hd))) hi.exp
    · exact hm g rfl
theorem do_none (hk : keyedN c.op = true) (hl : livingH h c.key en = none) : doH sd h c en = makesR sd (seenH sd h c.key en) c en := by
  have h15 : c.op ≠ 15 := by have := of_decide_eq_true hk; omega
  unfold doH
  rw [if_neg h15, if_pos hk, hl]
theorem do_some (hk : keyedN c.op = true) (hl : livingH h c.key en = some (i, ck)) : doH sd h c en = hasR sd (seenH sd h c.key en) c en i := by
  have h15 : c.op ≠ 15 := by have := of_decide_eq_true hk; omega
  unfold doH
  rw [if_neg h15, if_pos hk, hl]
theorem do_has (hk : keyedN c.op = true) (H : HasI h c.key i) (hl : liveI i en = true) : doH sd h c en = hasR sd (seenH sd h c.key en) c en i := by
  obtain ⟨ck, hf⟩ := H.living hl
  exact do_some hk hf
/-- What was put. -/
def doneR (cas : Int) : Rv := ⟨2, [], 0, cas, 0, 0, false, false, false⟩
theorem put_done (g : GoodH n h) {v : List UInt8} {fl exp : Int} (hs : (putR sd h k v fl exp en).1.s = 2) : (putR sd h k v fl exp en).1 = doneR (nextU en.seq) ∧ HasI (putR sd h k v fl exp en).2 k (newI k v fl exp en) ∧ sizeI (newI k v fl exp en) ≤ 2048 := by
  by_cases h0 : (storeH sd h (newI k v fl exp en) en).1 = 0
  · refine ⟨?_, store_has (i := newI k v fl exp en) g h0⟩
    unfold putR stR
    dsimp only
    rw [if_pos h0]
    rfl
  · exfalso
    unfold putR stR at hs
    dsimp only at hs
    rw [if_neg h0] at hs
    split at hs
    · exact absurd (show (3 : Int) = 2 from hs) (by decide)
    · exact absurd (show (9 : Int) = 2 from hs) (by decide)
theorem put_ok {v : List UInt8} {fl exp : Int} (h0 : (storeH sd h (newI k v fl exp en) en).1 = 0) : (putR sd h k v fl exp en).1.s = 2 := by
  unfold putR stR
  dsimp only
  rw [if_pos h0]
theorem number_s (r : Rv × Hs) (x : Int) : ((numberR r x).1.s = 7 → r.1.s = 2 ∨ r.1.s = 7) ∧ (r.1.s = 2 → (numberR r x).1 = { r.1 with s := 7, num := x }) := by
  unfold numberR
  refine ⟨fun hs => ?_, fun hs => by rw [if_pos hs]⟩
  split at hs
  · rename_i e
    exact .inl e
  · exact .inr hs
theorem put_s (sd : Nat) (h : Hs) (k : ByteArray) (v : List UInt8) (fl exp : Int) (en : En) : (putR sd h k v fl exp en).1.s = 2 ∨ (putR sd h k v fl exp en).1.s = 3 ∨ (putR sd h k v fl exp en).1.s = 9 := by
  unfold putR stR
  dsimp only
  split
  · exact .inl rfl
  · split
    · exact .inr (.inl rfl)
    · exact .inr (.inr rfl)
/-- The commands of the statements. -/
def getC (k : ByteArray) : Cv := ⟨0, k, [], 0, 0, 0, 0, 0, false, false⟩
def setC (k : ByteArray) (v : List UInt8) (fl exp cas : Int) : Cv := ⟨3, k, v, fl, exp, cas, 0, 0, false, false⟩
def delC (k : ByteArray) (cas : Int) : Cv := ⟨8, k, [], 0, 0, cas, 0, 0, false, false⟩
def metaC (k : ByteArray) : Cv := ⟨12, k, [], 0, 0, 0, 0, 0, false, false⟩
def staleC (k : ByteArray) : Cv := ⟨9, k, [], 0, 0, 0, 0, 0, false, false⟩
def bareC (op : Int) (k : ByteArray) (exp : Int) : Cv := ⟨op, k, [], 0, exp, 0, 0, 0, false, false⟩
def numC (op : Int) (k : ByteArray) (del : Int) : Cv := ⟨op, k, [], 0, 0, 0, del, 0, false, false⟩
def makeC (k : ByteArray) (ini : Int) : Cv := ⟨10, k, [], 0, 0, 0, 0, ini, true, false⟩
def joinC (op : Int) (k : ByteArray) (v : List UInt8) (fl exp : Int) : Cv := ⟨op, k, v, fl, exp, 0, 0, 0, false, false⟩
theorem keyed_lit (op : Int) (h : 0 ≤ op ∧ op ≤ 12 := by decide) : keyedN op = true := decide_eq_true h
/-- A get of what lives. -/
theorem get_has (H : HasI h k i) (hl : liveI i en = true) : doH sd h (getC k) en = (viewR i en, updH (seenH sd h k en) { i with seen := true }) := by
  rw [do_has (keyed_lit 0) (c := getC k) H hl]
  rfl
theorem get_miss (hl : livingH h k en = none) : doH sd h (getC k) en = (onlyR 1, seenH sd h k en) := by
  rw [do_none (keyed_lit 0) (c := getC k) hl]
  rfl
theorem get_keeps (g : GoodH n h) (H : HasI h k i) (hl : liveI i en = true) : HasI (doH sd h (getC k) en).2 k { i with seen := true } := by
  rw [get_has H hl]
  exact (H.seen sd hl).upd (j := { i with seen := true }) (good_seen g sd k en) H.key rfl
theorem live_new {v : List UInt8} {fl exp : Int} (hf : en.flush = 0) (he : exp = 0 ∨ en.now < exp) : liveI (newI k v fl exp en) en = true := by
  unfold liveI liveN newI
  dsimp only
  rw [if_neg (by omega), if_pos (.inl hf)]
/-- A set whose status is SStored has stored what it tells. -/
theorem set_done (g : GoodH n h) (hop : c.op = 3 ∨ c.op = 4 ∨ c.op = 5) (hs : (doH sd h c en).1.s = 2) : (doH sd h c en).1 = doneR (nextU en.seq) ∧ HasI (doH sd h c en).2 c.key (newI c.key c.val c.fl (atW c.exp en.now) en) ∧ sizeI (newI c.key c.val c.fl (atW c.exp en.now) en) ≤ 2048 := by
  have hk : keyedN c.op = true := decide_eq_true (by omega)
  have gs := good_seen g sd c.key en
  have key : doH sd h c en = putR sd (seenH sd h c.key en) c.key c.val c.fl (atW c.exp en.now) en ∨ (doH sd h c en).1.s ≠ 2 := by
    cases hl : livingH h c.key en with
    | none =>
      rw [do_none hk hl]
      unfold makesR
      rcases hop with e | e | e <;> rw [e]
      · by_cases hc : c.cas = 0
        · left
          rw [if_pos rfl, if_pos hc]
        · right
          rw [if_pos rfl, if_neg hc]
          exact fun e => absurd (show (1 : Int) = 2 from e) (by decide)
      · left
        rw [if_neg (by decide), if_pos rfl]
      · right
        rw [if_neg (by decide), if_neg (by decide), if_pos (by decide)]
        exact fun e => absurd (show (3 : Int) = 2 from e) (by decide)
    | some e =>
      obtain ⟨i, ck⟩ := e
      rw [do_some hk hl]
      unfold hasR
      rcases hop with e | e | e <;> rw [e]
      · rw [if_neg (by decide), if_neg (by decide), if_neg (by decide), if_neg (by decide)]
        by_cases hc : c.cas ≠ 0 ∧ c.cas ≠ i.cas
        · right
          rw [if_pos hc]
          exact fun e => absurd (show (4 : Int) = 2 from e) (by decide)
        · left
          rw [if_neg hc, if_pos (by decide)]
      · right
        rw [if_neg (by decide), if_neg (by decide), if_neg (by decide), if_pos rfl]
        exact fun e => absurd (show (3 : Int) = 2 from e) (by decide)
      · rw [if_neg (by decide), if_neg (by decide), if_neg (by decide), if_neg (by decide)]
        by_cases hc : c.cas ≠ 0 ∧ c.cas ≠ i.cas
        · right
          rw [if_pos hc]
          exact fun e => absurd (show (4 : Int) = 2 from e) (by decide)
        · left
          rw [if_neg hc, if_pos (by decide)]
  rcases key with e | e
  · rw [e] at hs ⊢
    exact put_done gs hs
  · exact absurd hs e
/-- A set in the place of what lives, and is no other one. -/
theorem set_over (g : GoodH n h) {v : List UInt8} {fl exp cas : Int} (H : HasI h k i) (hl : liveI i en = true) (hc : cas = 0 ∨ cas = i.cas) (hsz : 50 + (k.size : Int) + (v.length : Int) ≤ 2048) (hb : 2048 ≤ h.slab.bud) : (doH sd h (setC k v fl exp cas) en).1.s = 2 := by
  have gs := good_seen g sd k en
  rw [do_has (keyed_lit 3) (c := setC k v fl exp cas) H hl]
  have hd : hasR sd (seenH sd h k en) (setC k v fl exp cas) en i = if cas ≠ 0 ∧ cas ≠ i.cas then (onlyR 4, seenH sd h k en) else putR sd (seenH sd h k en) k v fl (atW exp en.now) en := rfl
  show (hasR sd (seenH sd h k en) (setC k v fl exp cas) en i).1.s = 2
  rw [hd, if_neg (show ¬ (cas ≠ 0 ∧ cas ≠ i.cas) by omega)]
  exact put_ok (store_over (i := newI k v fl (atW exp en.now) en) gs (H.seen sd hl) hl hsz (by rw [seen_bud]; exact Int.le_trans (bytes_most _).2 hb))
/-- Another one. -/
theorem set_other {v : List UInt8} {fl exp cas : Int} (H : HasI h k i) (hl : liveI i en = true) (hc : cas ≠ 0 ∧ cas ≠ i.cas) : doH sd h (setC k v fl exp cas) en = (onlyR 4, seenH sd h k en) := by
  rw [do_has (keyed_lit 3) (c := setC k v fl exp cas) H hl]
  exact if_pos hc
theorem del_other {cas : Int} (H : HasI h k i) (hl : liveI i en = true) (hc : cas ≠ 0 ∧ cas ≠ i.cas) : doH sd h (delC k cas) en = (onlyR 4, seenH sd h k en) := by
  rw [do_has (keyed_lit 8) (c := delC k cas) H hl]
  exact if_pos hc
theorem del_out (g : GoodH n h) : ((doH sd h (delC k 0) en).1 = onlyR 5 ∨ (doH sd h (delC k 0) en).1 = onlyR 1) ∧ findE k (doH sd h (delC k 0) en).2.ents = none := by
  cases hl : livingH h k en with
  | none =>
    rw [do_none (keyed_lit 8) (c := delC k 0) hl]
    exact ⟨.inr rfl, (seen_find sd h k en).trans hl⟩
  | some e =>
    obtain ⟨i, ck⟩ := e
    rw [do_some (keyed_lit 8) (c := delC k 0) hl]
    refine ⟨.inl rfl, ?_⟩
    show findE k (removeH (seenH sd h k en) k).ents = none
    unfold removeH
    rw [(seen_find sd h k en).trans hl]
    exact find_del_same
/-- Where there is nothing there stays nothing. -/
theorem none_seen (hf : findE k h.ents = none) : findE k (seenH sd h k en).ents = none := (seen_find sd h k en).trans (living_none hf)
theorem bare_none (hf : findE k h.ents = none) {op exp : Int} (hop : op = 0 ∨ op = 1 ∨ op = 2 ∨ op = 8 ∨ op = 9) : doH sd h (bareC op k exp) en = (onlyR 1, seenH sd h k en) := by
  rw [do_none (c := bareC op k exp) (decide_eq_true (show 0 ≤ op ∧ op ≤ 12 by omega)) (living_none hf)]
  rcases hop with rfl | rfl | rfl | rfl | rfl <;> rfl
theorem repl_none (hf : findE k h.ents = none) : doH sd h (bareC 5 k 0) en = (onlyR 3, seenH sd h k en) := by
  rw [do_none (c := bareC 5 k 0) (keyed_lit 5) (living_none hf)]
  rfl
end
end Go.Proofs.YtkfeafmpaodagaaGreatDoor

namespace Go.Proofs.YtkfeafmpaodagaaGreatDoor
set_option linter.unusedVariables false
open Go.RowKit

section
variable {n sd : Nat} {h : Hs} {k : ByteArray} {en : En} {i : Iv} {c : Cv}
theorem pair_ex {α β : Type} (p : α × β) : ∃ a b, p = (a, b) := ⟨p.1, p.2, rfl⟩
theorem ttl_at {exp now : Int} (h0 : 0 ≤ exp) (h1 : exp ≤ 2592000) (n1 : 1 ≤ now) (n2 : now ≤ 1099511627776) : ttlN (atW exp now) now = if exp = 0 then -1 else exp := by
  unfold ttlN atW
  by_cases e : exp = 0
  · rw [if_pos e, if_pos rfl, if_pos e]
  · have hm : max now 1 = now := by omega
    have hw : wrap64 (now + exp) = now + exp := by unfold wrap64; omega
    rw [if_neg e, if_neg (show ¬ exp < 0 by omega), if_pos h1, hm, hw, if_neg (by omega), if_neg (by omega), if_neg e]
    unfold wrap64
    omega
theorem at_later {exp now : Int} (h0 : 0 ≤ exp) (h1 : exp ≤ 2592000) (n1 : 1 ≤ now) (n2 : now ≤ 1099511627776) : atW exp now = 0 ∨ now < atW exp now := by
  unfold atW
  by_cases e : exp = 0
  · rw [if_pos e]
    exact .inl rfl
  · have hm : max now 1 = now := by omega
    have hw : wrap64 (now + exp) = now + exp := by unfold wrap64; omega
    rw [if_neg e, if_neg (show ¬ exp < 0 by omega), if_pos h1, hm, hw]
    exact .inr (by omega)
theorem tells_ex (g : GoodH n h) (sd : Nat) (hop : c.op = 3 ∨ c.op = 4 ∨ c.op = 5) (hf : en.flush = 0) (h0 : 0 ≤ c.exp) (h1 : c.exp ≤ 2592000) (n1 : 1 ≤ en.now) (n2 : en.now ≤ 1099511627776) :
    ∃ r1 t1 r2 t2, doH sd h c en = (r1, t1) ∧ doH sd t1 (getC c.key) en = (r2, t2) ∧ (r1.s = 2 → r1.cas = nextU en.seq ∧ r2 = ⟨0, c.val, c.fl, nextU en.seq, if c.exp = 0 then -1 else c.exp, 0, false, false, false⟩) := by
  obtain ⟨r1, t1, e1⟩ := pair_ex (doH sd h c en)
  obtain ⟨r2, t2, e2⟩ := pair_ex (doH sd t1 (getC c.key) en)
  refine ⟨r1, t1, r2, t2, e1, e2, fun hs => ?_⟩
  have hd := set_done g hop (sd := sd) (en := en) (by rw [e1]; exact hs)
  rw [e1] at hd
  have hg := get_has (sd := sd) hd.2.1 (live_new (en := en) hf (at_later h0 h1 n1 n2))
  rw [e2] at hg
  have hr := congrArg Prod.fst hg
  dsimp only at hr
  refine ⟨by rw [show r1 = _ from hd.1]; rfl, ?_⟩
  rw [hr]
  show Rv.mk 0 c.val c.fl (nextU en.seq) (ttlN (atW c.exp en.now) en.now) 0 false false false = _
  rw [ttl_at h0 h1 n1 n2]
/-- What a get tells. -/
def viewO (h : Hs) (k : ByteArray) (en : En) : Option Rv := (livingH h k en).map fun e => viewR e.1 en
theorem get_is (sd : Nat) (h : Hs) (k : ByteArray) (en : En) : (doH sd h (getC k) en).1 = (viewO h k en).getD (onlyR 1) := by
  unfold viewO
  cases hl : livingH h k en with
  | none =>
    rw [get_miss hl]
    rfl
  | some e =>
    obtain ⟨i, ck⟩ := e
    rw [do_some (keyed_lit 0) (c := getC k) hl]
    rfl
theorem get_view (g : GoodH n h) (sd : Nat) (k o : ByteArray) (en : En) : viewO (doH sd h (getC o) en).2 k en = viewO h k en := by
  unfold viewO
  cases hl : livingH h o en with
  | none =>
    rw [get_miss hl]
    by_cases e : k = o
    · subst e
      rw [hl, living_none ((seen_find sd h k en).trans hl)]
    · rw [living_congr (h := seenH sd h o en) (h' := h) (look_other g e en)]
  | some x =>
    obtain ⟨i, ck⟩ := x
    have hd : doH sd h (getC o) en = (viewR i en, updH (seenH sd h o en) { i with seen := true }) := by
      rw [do_some (keyed_lit 0) (c := getC o) hl]
      rfl
    have hf : findE o (seenH sd h o en).ents = some (i, ck) := (seen_find sd h o en).trans hl
    have hk := (findE_some hf).2
    have hlv : liveI i en = true := by
      unfold livingH at hl
      split at hl
      · cases hl
      · split at hl
        · rename_i hv
          cases hl
          exact hv
        · cases hl
    rw [hd]
    by_cases e : k = o
    · subst e
      obtain ⟨ck', h2⟩ := (HasI.upd (j := { i with seen := true }) (good_seen g sd k en) ⟨ck, hf⟩ hk rfl).living (en := en) hlv
      rw [h2, hl]
      rfl
    · rw [living_congr (h := updH (seenH sd h o en) { i with seen := true }) (h' := h) ((upd_other (j := { i with seen := true }) (good_seen g sd o en) (fun e' => e (e'.trans hk))).trans (look_other g e en))]
theorem get_s (sd : Nat) (h : Hs) (k : ByteArray) (en : En) : (doH sd h (getC k) en).1.s = 0 ∨ (doH sd h (getC k) en).1.s = 1 := by
  rw [get_is]
  unfold viewO
  cases livingH h k en with
  | none => exact .inr rfl
  | some e => exact .inl rfl
theorem z64 : I64 0 := ⟨by decide, by decide⟩
theorem zu64 : U64 0 := ⟨by decide, by decide⟩
theorem get_ok {k : ByteArray} (hk : k.size ≤ 140737488351232) : (getC k).ok := ⟨z64, hk, Nat.zero_le _, z64, zu64, zu64, zu64⟩
theorem asks_ex (g : GoodH n h) (sd : Nat) (key other : ByteArray) (hk : key.size ≤ 140737488351232) (ho : other.size ≤ 140737488351232) (hen : en.ok) (hl : h.slab.bud ≤ 57600) :
    ∃ r1 t1 r2 t2 t3, doH sd h (getC key) en = (r1, t1) ∧ doH sd t1 (getC other) en = (r2, t2) ∧ doH sd t2 (bareC 14 ⟨#[]⟩ 0) en = (onlyR 10, t2) ∧ doH sd t2 (bareC 15 ⟨#[]⟩ 0) en = (onlyR 11, t2) ∧ doH sd t2 (getC key) en = (r1, t3) ∧ (r1.s = 0 ∨ r1.s = 1) := by
  obtain ⟨r1, t1, e1⟩ := pair_ex (doH sd h (getC key) en)
  obtain ⟨r2, t2, e2⟩ := pair_ex (doH sd t1 (getC other) en)
  obtain ⟨r3, t3, e3⟩ := pair_ex (doH sd t2 (getC key) en)
  have g1 := (good_do g sd (get_ok hk) hen (.inr hl)).1
  rw [e1] at g1
  have v1 := get_view g sd key key en
  have v2 := get_view g1 sd key other en
  have i1 := get_is sd h key en
  have i3 := get_is sd t2 key en
  have hs := get_s sd h key en
  rw [e1] at v1 i1 hs
  rw [e2] at v2
  rw [e3] at i3
  have : r3 = r1 := by
    dsimp only at i1 i3 v1 v2
    rw [i3, v2, v1, i1]
  subst this
  exact ⟨r3, t1, r2, t2, t3, e1, e2, rfl, rfl, e3, hs⟩
theorem deletes_ex (g : GoodH n h) (sd : Nat) (k : ByteArray) (en : En) :
    ∃ r1 t1 t2 t3 t4 t5 t6, doH sd h (delC k 0) en = (r1, t1) ∧ (r1 = onlyR 5 ∨ r1 = onlyR 1) ∧ doH sd t1 (getC k) en = (onlyR 1, t2) ∧ doH sd t2 (delC k 0) en = (onlyR 1, t3) ∧ doH sd t3 (bareC 5 k 0) en = (onlyR 3, t4) ∧ doH sd t4 (bareC 2 k 5) en = (onlyR 1, t5) ∧ doH sd t5 (staleC k) en = (onlyR 1, t6) := by
  obtain ⟨r1, t1, e1⟩ := pair_ex (doH sd h (delC k 0) en)
  have hd := del_out (sd := sd) (k := k) (en := en) g
  rw [e1] at hd
  have f1 : findE k t1.ents = none := hd.2
  have f2 := none_seen (sd := sd) (en := en) f1
  have f3 := none_seen (sd := sd) (en := en) f2
  have f4 := none_seen (sd := sd) (en := en) f3
  have f5 := none_seen (sd := sd) (en := en) f4
  exact ⟨r1, t1, _, _, _, _, _, e1, hd.1, bare_none (op := 0) (exp := 0) f1 (by decide), bare_none (op := 8) (exp := 0) f2 (by decide), repl_none f3, bare_none (op := 2) (exp := 5) f4 (by decide), bare_none (op := 9) (exp := 0) f5 (by decide)⟩
/-- A get of what is stale. -/
theorem meta_has (g : GoodH n h) (H : HasI h k i) (hl : liveI i en = true) : ∃ t, doH sd h (metaC k) en = (⟨0, i.val, i.fl, i.cas, ttlN i.exp en.now, 0, i.st, !i.won && i.st, i.won⟩, t) ∧ HasI t k { i with seen := true, won := i.won || i.st } := by
  refine ⟨_, by rw [do_has (keyed_lit 12) (c := metaC k) H hl]; rfl, ?_⟩
  exact (H.seen sd hl).upd (j := { i with seen := true, won := i.won || i.st }) (good_seen g sd k en) H.key rfl
theorem stale_s (sd : Nat) (h : Hs) (k : ByteArray) (en : En) : (doH sd h (staleC k) en).1 = onlyR 1 ∨ (doH sd h (staleC k) en).1 = onlyR 5 := by
  cases hl : livingH h k en with
  | none =>
    rw [do_none (keyed_lit 9) (c := staleC k) hl]
    exact .inl rfl
  | some e =>
    obtain ⟨i, ck⟩ := e
    rw [do_some (keyed_lit 9) (c := staleC k) hl]
    exact .inr rfl
theorem stale_has (g : GoodH n h) (H : HasI h k i) (hl : liveI i en = true) : ∃ t, doH sd h (staleC k) en = (onlyR 5, t) ∧ HasI t k { i with st := true, won := false, cas := nextU en.seq } := by
  refine ⟨_, by rw [do_has (keyed_lit 9) (c := staleC k) H hl]; rfl, ?_⟩
  exact (H.seen sd hl).upd (j := { i with st := true, won := false, cas := nextU en.seq }) (good_seen g sd k en) H.key rfl
theorem touch_has (g : GoodH n h) (exp : Int) (H : HasI h k i) (hl : liveI i en = true) : ∃ t, doH sd h (bareC 2 k exp) en = (onlyR 6, t) ∧ HasI t k { i with exp := atW exp en.now } := by
  refine ⟨_, by rw [do_has (keyed_lit 2) (c := bareC 2 k exp) H hl]; rfl, ?_⟩
  exact (H.seen sd hl).upd (j := { i with exp := atW exp en.now }) (good_seen g sd k en) H.key rfl
theorem gat_has (g : GoodH n h) (exp : Int) (H : HasI h k i) (hl : liveI i en = true) : ∃ t, doH sd h (bareC 1 k exp) en = (viewR { i with exp := atW exp en.now } en, t) ∧ HasI t k { i with exp := atW exp en.now, seen := true } := by
  refine ⟨_, by rw [do_has (keyed_lit 1) (c := bareC 1 k exp) H hl]; rfl, ?_⟩
  exact (H.seen sd hl).upd (j := { i with exp := atW exp en.now, seen := true }) (good_seen g sd k en) H.key rfl
/-- Append and prepend. -/
theorem join_done (g : GoodH n h) {op fl exp : Int} {v : List UInt8} (hop : op = 6 ∨ op = 7) (H : HasI h k i) (hl : liveI i en = true) (hs : (doH sd h (joinC op k v fl exp) en).1.s = 2) : HasI (doH sd h (joinC op k v fl exp) en).2 k (newI k (if op = 7 then v ++ i.val else i.val ++ v) i.fl i.exp en) := by
  have gs := good_seen g sd k en
  have hd : doH sd h (joinC op k v fl exp) en = (if 1000 < i.val.length + v.length then (onlyR 9, seenH sd h k en) else putR sd (seenH sd h k en) k (if op = 7 then v ++ i.val else i.val ++ v) i.fl i.exp en) := by
    rw [do_has (c := joinC op k v fl exp) (decide_eq_true (show 0 ≤ op ∧ op ≤ 12 by omega)) H hl]
    rcases hop with rfl | rfl <;> rfl
  rw [hd] at hs ⊢
  split
  · rename_i e
    rw [if_pos e] at hs
    exact absurd (show (9 : Int) = 2 from hs) (by decide)
  · rename_i e
    rw [if_neg e] at hs
    exact (put_done gs hs).2.1
/-- A number that is made, and one that is reckoned with. -/
theorem make_none (g : GoodH n h) (hf : findE k h.ents = none) (x : Int) : ∃ r t, doH sd h (makeC k x) en = (r, t) ∧ (r.s = 7 → r.num = x ∧ HasI t k (newI k (showB x) 0 0 en)) := by
  have gs := good_seen g sd k en
  have hd : doH sd h (makeC k x) en = numberR (putR sd (seenH sd h k en) k (showB x) 0 0 en) x := by
    rw [do_none (keyed_lit 10) (c := makeC k x) (living_none hf)]
    rfl
  obtain ⟨r, t, e⟩ := pair_ex (doH sd h (makeC k x) en)
  have e1 := e.symm.trans hd
  have hr : r = (numberR (putR sd (seenH sd h k en) k (showB x) 0 0 en) x).1 := congrArg Prod.fst e1
  have ht : t = (putR sd (seenH sd h k en) k (showB x) 0 0 en).2 := (congrArg Prod.snd e1).trans (number_snd _ _)
  refine ⟨r, t, e, fun hs => ?_⟩
  rw [hr] at hs
  have h2 : (putR sd (seenH sd h k en) k (showB x) 0 0 en).1.s = 2 := by
    rcases (number_s _ _).1 hs with e | e
    · exact e
    · rcases put_s sd (seenH sd h k en) k (showB x) 0 0 en with e2 | e2 | e2 <;> omega
  rw [hr, ht, (number_s _ _).2 h2]
  exact ⟨rfl, (put_done gs h2).2.1⟩
theorem reck_has (g : GoodH n h) {op del : Int} (hop : op = 10 ∨ op = 11) {x : Nat} (hx : x < 18446744073709551616) (hdl : U64 del) (H : HasI h k i) (hv : i.val = showB x) (hl : liveI i en = true) (hk : k.size ≤ 250) (hb : 512 ≤ h.slab.bud) :
    ∃ r t, doH sd h (numC op k del) en = (r, t) ∧ r.s = 7 ∧ r.num = reckN (numC op k del) x ∧ HasI t k (newI k (showB (reckN (numC op k del) x)) i.fl i.exp en) := by
  have gs := good_seen g sd k en
  have hdc : dec i.val = some x := by rw [hv]; exact dec_show x hx
  have h20 : ¬ 20 < i.val.length := by rw [hv]; have := digits_len x hx; show ¬ 20 < (Lib.decDigits x).length; omega
  have hd : doH sd h (numC op k del) en = numberR (putR sd (seenH sd h k en) k (showB (reckN (numC op k del) x)) i.fl i.exp en) (reckN (numC op k del) x) := by
    rw [do_has (c := numC op k del) (decide_eq_true (show 0 ≤ op ∧ op ≤ 12 by omega)) H hl]
    have hm : (match dec i.val with
        | none => (onlyR 8, seenH sd h k en)
        | some y => if 20 < i.val.length then (onlyR 8, seenH sd h k en) else numberR (putR sd (seenH sd h k en) k (showB (reckN (numC op k del) y)) i.fl i.exp en) (reckN (numC op k del) y)) = numberR (putR sd (seenH sd h k en) k (showB (reckN (numC op k del) x)) i.fl i.exp en) (reckN (numC op k del) x) := by
      rw [hdc]
      exact if_neg h20
    rw [← hm]
    rcases hop with rfl | rfl <;> rfl
  have hu : U64 (reckN (numC op k del) x) := reck_u64 (c := numC op k del) hdl ⟨Int.natCast_nonneg _, by omega⟩
  have h2 : (putR sd (seenH sd h k en) k (showB (reckN (numC op k del) x)) i.fl i.exp en).1.s = 2 := put_ok (store_over (i := newI k (showB (reckN (numC op k del) x)) i.fl i.exp en) gs (H.seen sd hl) hl (by
    have := show_len hu
    show 50 + ((k.size : Nat) : Int) + (((showB (reckN (numC op k del) x)).length : Nat) : Int) ≤ 2048
    omega) (by
    have := show_len hu
    rw [seen_bud]
    refine Int.le_trans (bytes_512 ?_) hb
    show 50 + ((k.size : Nat) : Int) + (((showB (reckN (numC op k del) x)).length : Nat) : Int) ≤ 512
    omega))
  obtain ⟨r, t, e⟩ := pair_ex (doH sd h (numC op k del) en)
  have e1 := e.symm.trans hd
  have hr : r = (numberR (putR sd (seenH sd h k en) k (showB (reckN (numC op k del) x)) i.fl i.exp en) (reckN (numC op k del) x)).1 := congrArg Prod.fst e1
  have ht : t = (putR sd (seenH sd h k en) k (showB (reckN (numC op k del) x)) i.fl i.exp en).2 := (congrArg Prod.snd e1).trans (number_snd _ _)
  refine ⟨r, t, e, ?_⟩
  rw [hr, ht, (number_s _ _).2 h2]
  exact ⟨rfl, rfl, (put_done gs h2).2.1⟩
end
end Go.Proofs.YtkfeafmpaodagaaGreatDoor
