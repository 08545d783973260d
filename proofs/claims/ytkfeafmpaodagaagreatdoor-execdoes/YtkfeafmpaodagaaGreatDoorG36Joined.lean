/- Commands on a shard of lists: what chapter 12 says of them. Nothing of the program is run here. Conditions: none. What follows of commands on a shard of lists, one behind the other. Nothing of the program is run here. Conditions: none. What commands on a shard of lists come to, one behind the other: what the statements of layer 12 ask of them. Nothing of the program is run here. Conditions: none. The commands of each statement of layer 12, one behind the other, on a shard of lists. Nothing of the program is run here. Conditions: none. -/
import Derived.Test.YtkfeafmpaodagaaGreatDoorG35Joined
import Derived.Test.YtkfeafmpaodagaaGreatDoorG40Joined
namespace Go.Proofs.YtkfeafmpaodagaaGreatDoor
set_option maxHeartbeats 16000000
section
open Go.RowKit
def stR (e cas : Int) : Rv:=if e = 0 then ⟨2,[],0,cas,0,0,false,false,false⟩ else if e = 8 then jAh 3 else jAh 9
def jBb (sd : Nat) (h : Hs) (key : ByteArray) (v : List UInt8) (fl exp : Int) (en : En) : Rv × Hs :=
 (stR (jBk sd h (jBf key v fl exp en) en).1 (jCx en.seq),(jBk sd h (jBf key v fl exp en) en).2)
def jBc (r : Rv × Hs) (n : Int) : Rv × Hs:=if r.1.s = 2 then ({ r.1 with s:=7,num:=n },r.2) else r
def jCz (n : Int) : List UInt8:=Lib.decDigits n.toNat
def jAw (sd : Nat) (h : Hs) (c : Cv) (en : En) : Rv × Hs :=
 if c.op = 3 then (if c.cas = 0 then jBb sd h c.key c.val c.fl (atW c.exp en.now) en else (jAh 1,h))
 else if c.op = 4 then jBb sd h c.key c.val c.fl (atW c.exp en.now) en
 else if c.op = 5 ∨ c.op = 6 ∨ c.op = 7 then (jAh 3,h)
 else if c.op = 10 ∨ c.op = 11 then (if c.makes then jBc (jBb sd h c.key (jCz c.ini) 0 (atW c.exp en.now) en) c.ini else (jAh 1,h))
 else if c.op = 12 then (if c.makes then
   (if (jBk sd h (jBf c.key [] 0 (atW c.exp en.now) en) en).1 = 0 then
    ({ jA8 (jBf c.key [] 0 (atW c.exp en.now) en) en with won:=true },jBa (jBk sd h (jBf c.key [] 0 (atW c.exp en.now) en) en).2 { jBf c.key [] 0 (atW c.exp en.now) en with won:=true })
   else (jAh 1,(jBk sd h (jBf c.key [] 0 (atW c.exp en.now) en) en).2))
  else (jAh 1,h))
 else (jAh 1,h)
def jEd (c : Cv) (en : En) (i : Iv) : Iv:={ i with exp:=if c.op = 0 then i.exp else atW c.exp en.now,seen:=if c.op = 2 then i.seen else true }
def jC2 (c : Cv) (en : En) (i : Iv) : Iv:={ i with exp:=if c.sets then atW c.exp en.now else i.exp,seen:=true }
def jDy (c : Cv) (en : En) (i : Iv) : Iv:={ i with st:=true,won:=false,cas:=jCx en.seq,exp:=if c.sets then atW c.exp en.now else i.exp }
def joinV (c : Cv) (i : Iv) : List UInt8:=if c.op = 7 then c.val ++ i.val else i.val ++ c.val
def jEa (c : Cv) (n : Int) : Int:=if c.op = 10 then (n + c.del) % 18446744073709551616 else if n < c.del then 0 else n - c.del
def jC3 (sd : Nat) (h : Hs) (c : Cv) (en : En) (i : Iv) : Rv × Hs :=
 if c.op = 0 ∨ c.op = 1 then (jA8 (jEd c en i) en,jBa h (jEd c en i))
 else if c.op = 2 then (jAh 6,jBa h (jEd c en i))
 else if c.op = 12 then ({ jA8 (jC2 c en i) en with lost:=i.won,won:=!i.won && i.st },jBa h { jC2 c en i with won:=i.won || i.st })
 else if c.op = 4 then (jAh 3,h)
 else if c.cas ≠ 0 ∧ c.cas ≠ i.cas then (jAh 4,h)
 else if c.op = 3 ∨ c.op = 5 then jBb sd h c.key c.val c.fl (atW c.exp en.now) en
 else if c.op = 6 ∨ c.op = 7 then (if 1000 < i.val.length + c.val.length then (jAh 9,h) else jBb sd h c.key (joinV c i) i.fl i.exp en)
 else if c.op = 8 then (jAh 5,jBv h c.key)
 else if c.op = 9 then (jAh 5,jBa h (jDy c en i))
 else match dec i.val with
  | none => (jAh 8,h)
  | some n => if 20 < i.val.length then (jAh 8,h) else jBc (jBb sd h c.key (jCz (jEa c n)) i.fl i.exp en) (jEa c n)
def jCc (op : Int) : Bool:=decide (0 ≤ op ∧ op ≤ 12)
def jNk (op : Int) : Bool:=decide ((3 ≤ op ∧ op ≤ 7) ∨ op = 10 ∨ op = 11 ∨ op = 12)
def jCy (sd : Nat) (h : Hs) (k : ByteArray) (en : En) : Hs:=jGt sd (jAy h k en) k
def doH (sd : Nat) (h : Hs) (c : Cv) (en : En) : Rv × Hs :=
 if c.op = 15 then (jAh 11,h)
 else if jCc c.op then
  match jAp h c.key en with
  | none => jAw sd (jCy sd h c.key en) c en
  | some e => jC3 sd (jCy sd h c.key en) c en e.1
 else (jAh 10,h)
end
section
set_option linter.unusedVariables false
open Go.RowKit
theorem kFx {n : Nat} {st : Hs} (g : jAo n st) (sd : Nat) (i : Iv) (en : En) : (jBk sd st i en).2.slab.bud = st.slab.bud:=by
 unfold jBk
 by_cases hsz : 2048 < jAl i
 ·rw [if_pos hsz]
 ·rw [if_neg hsz]
  have gl:=jCf g i.key en
  obtain ⟨rm,_,_⟩:=jKv sd i (jAp st i.key en) en _ _ rfl gl
  have hbud : (jAz sd i (jAp st i.key en) en (jAy st i.key en)).2.slab.bud = st.slab.bud:=rm.bud.trans jGq.2.1
  by_cases h0 : (jAz sd i (jAp st i.key en) en (jAy st i.key en)).1 = 0
  ·rw [if_pos h0]
   show (takeS (jBd _ _) _).bud = _
   rw [jYp]
   unfold jBd
   split
   ·exact hbud
   ·exact (jG2 _ _).trans hbud
  ·rw [if_neg h0]
   exact hbud
theorem kC6 (st : Hs) (k : ByteArray) : (jBv st k).slab.bud = st.slab.bud:=by
 unfold jBv
 split
 ·rfl
 ·exact jG2 _ _
theorem kB1 (st : Hs) (i : Iv) : (jBa st i).slab.bud = st.slab.bud:=by
 unfold jBa
 split
 ·rfl
 ·split <;> rfl
section
variable {n sd : Nat} {h : Hs} {k s : ByteArray} {en : En} {i j : Iv}
theorem kHa (sd : Nat) (h : Hs) (k : ByteArray) (en : En) : jA0 k (jCy sd h k en).ents = jAp h k en:=(jKm h k en).symm
theorem kGn (g : jAo n h) (sd : Nat) (k : ByteArray) (en : En) : jAo n (jCy sd h k en):=jD3 (jCf g k en) sd k
theorem kMj (sd : Nat) (h : Hs) (k : ByteArray) (en : En) : (jCy sd h k en).slab.bud = h.slab.bud:=jGq.2.1
end
theorem jS3 (r : Rv × Hs) (n : Int) : (jBc r n).2 = r.2:=by unfold jBc;split <;> rfl
theorem at_i64 {exp now : Int} (he : I64 exp) (hn : I64 now) : I64 (atW exp now):=by
 unfold I64 at *
 unfold atW
 repeat' split
 all_goals first | omega | (unfold wrap64;omega)
theorem kLh {c : Cv} (hc : U64 c.del) {n : Int} (hn : U64 n) : U64 (jEa c n):=by
 unfold U64 at *
 unfold jEa
 repeat' split
 all_goals omega
theorem kFh {key : ByteArray} {v : List UInt8} {fl exp : Int} {en : En} (hk : key.size ≤ 140737488351232) (hv : v.length ≤ 140737488351232) (he : I64 exp) (hen : en.ok) : (jBf key v fl exp en).ok:=⟨hk,hv,he,hen.now,hen.seq⟩
theorem kM1 {l : List UInt8} {n : Nat} (h : dec l = some n) : U64 n:=by
 unfold dec at h
 split at h
 ·cases h
 ·split at h
  ·rename_i u hu
   cases h
   have:=Lib.parseUintB_le hu
   exact ⟨Int.natCast_nonneg _,by (have : (2 : Nat) ^ 64 - 1 = 18446744073709551615:=by decide);omega⟩
  ·cases h
end
section
set_option linter.unusedVariables false
open Go.RowKit
section
variable {n sd : Nat} {h : Hs} {k : ByteArray} {en : En} {i : Iv} {c : Cv} {ck : Ck}
theorem kK3 {x : Int} (hx : U64 x) : (jCz x).length ≤ 20:=jJf _ (by unfold U64 at hx;omega)
theorem kOz (g : jAo n h) (sd : Nat) (hc : c.ok) (hen : en.ok) (hl : n ≤ 900 ∨ h.slab.bud ≤ 57600) : jAo (n + 1) (doH sd h c en).2 ∧ (doH sd h c en).2.slab.bud = h.slab.bud:=by
 have hm : ∀ {h' : Hs},jAo n h' → h'.slab.bud = h.slab.bud → jAo (n + 1) h' ∧ h'.slab.bud = h.slab.bud:=fun g' hb => ⟨jH8 g' (Nat.le_succ n) (by rw [hb];exact hl.imp Nat.succ_le_succ id),hb⟩
 have gs:=kGn g sd c.key en
 have bs:=kMj sd h c.key en
 have hl' : n ≤ 900 ∨ (jCy sd h c.key en).slab.bud ≤ 57600:=by rw [bs];exact hl
 have hx:=at_i64 hc.exp hen.now
 have hst : ∀ {v : List UInt8} {fl exp : Int},v.length ≤ 140737488351232 → I64 exp → jAo (n + 1) (jBk sd (jCy sd h c.key en) (jBf c.key v fl exp en) en).2 ∧ (jBk sd (jCy sd h c.key en) (jBf c.key v fl exp en) en).2.slab.bud = h.slab.bud:=fun hv he => ⟨jQ2 gs sd (kFh hc.key hv he hen) en hl',(kFx gs sd _ en).trans bs⟩
 have hup : ∀ {j : Iv},j.ok → jAo n (jBa (jCy sd h c.key en) j) ∧ (jBa (jCy sd h c.key en) j).slab.bud = h.slab.bud:=fun hj => ⟨jPn gs hj,(kB1 _ _).trans bs⟩
 have h20 : ∀ {x : Int},U64 x → (jCz x).length ≤ 140737488351232:=fun hx => Nat.le_trans (kK3 hx) (by decide)
 unfold doH
 split
 ·exact hm g rfl
 ·split
  ·split
   ·unfold jAw
    split
    ·split
     ·exact hst hc.val hx
     ·exact hm gs bs
    ·split
     ·exact hst hc.val hx
     ·split
      ·exact hm gs bs
      ·split
       ·split
        ·rw [jS3]
         exact hst (h20 hc.ini) hx
        ·exact hm gs bs
       ·split
        ·split
         ·have hw:=hst (v:=[]) (fl:=0) (Nat.zero_le _) hx
          split
          ·refine ⟨jPn hw.1 ?_,(kB1 _ _).trans hw.2⟩
           have:=kFh (fl:=0) (v:=[]) hc.key (Nat.zero_le _) hx hen
           exact ⟨this.key,this.val,this.exp,this.sec,this.seq⟩
          ·exact hw
         ·exact hm gs bs
        ·exact hm gs bs
   ·rename_i e hlv
    have he : e ∈ (jCy sd h c.key en).ents:=(jBs ((kHa sd h c.key en).trans hlv)).1
    have hi:=(gs.cls e he).1
    have h1 : (jEd c en e.1).ok:=⟨hi.key,hi.val,by unfold jEd;dsimp only;split;exact hi.exp;exact hx,hi.sec,hi.seq⟩
    have h2 : (jC2 c en e.1).ok:=⟨hi.key,hi.val,by unfold jC2;dsimp only;split;exact hx;exact hi.exp,hi.sec,hi.seq⟩
    have h3 : (jDy c en e.1).ok:=⟨hi.key,hi.val,by unfold jDy;dsimp only;split;exact hx;exact hi.exp,hi.sec,hi.seq⟩
    unfold jC3
    split
    ·exact hm (hup h1).1 (hup h1).2
    ·split
     ·exact hm (hup h1).1 (hup h1).2
     ·split
      ·have h4 : ({ jC2 c en e.1 with won:=e.1.won || e.1.st } : Iv).ok:=⟨h2.key,h2.val,h2.exp,h2.sec,h2.seq⟩
       exact hm (hup h4).1 (hup h4).2
      ·split
       ·exact hm gs bs
       ·split
        ·exact hm gs bs
        ·split
         ·exact hst hc.val hx
         ·split
          ·split
           ·exact hm gs bs
           ·refine hst ?_ hi.exp
            have : (joinV c e.1).length = e.1.val.length + c.val.length:=by unfold joinV;split <;> rw [List.length_append] <;> omega
            have hk : (1000 : Nat) ≤ 140737488351232:=by decide
            omega
          ·split
           ·exact hm (jX8 gs _) ((kC6 _ _).trans bs)
           ·split
            ·exact hm (hup h3).1 (hup h3).2
            ·split
             ·exact hm gs bs
             ·rename_i x hd
              split
              ·exact hm gs bs
              ·rw [jS3]
               exact hst (h20 (kLh hc.del (kM1 hd))) hi.exp
  ·exact hm g rfl
def setC (k : ByteArray) (v : List UInt8) (fl exp cas : Int) : Cv:=⟨3,k,v,fl,exp,cas,0,0,false,false⟩
def jRt (op : Int) (k : ByteArray) (del : Int) : Cv:=⟨op,k,[],0,0,0,del,0,false,false⟩
end
end
section
set_option linter.unusedVariables false
open Go.RowKit
section
variable {n sd : Nat} {h : Hs} {k : ByteArray} {en : En} {i : Iv} {c : Cv}
theorem z64 : I64 0:=⟨by decide,by decide⟩
theorem zu64 : U64 0:=⟨by decide,by decide⟩
end
end
end Go.Proofs.YtkfeafmpaodagaaGreatDoor
