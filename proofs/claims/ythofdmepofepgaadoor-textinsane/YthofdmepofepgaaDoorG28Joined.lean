/- How package textin reads a line's words, whatever they are, and what it refuses. Conditions: the listed variables hold what the program's text lays; at most 5000 words of at most 140737488351232 bytes. The request that a draft of package textin makes. Conditions: at most 5000 keys. -/
import Derived.Test.YthofdmepofepgaaDoorTextS
import Derived.Test.YthofdmepofepgaaDoorLinedA
namespace Go.Proofs.YthofdmepofepgaaDoor
set_option linter.unusedVariables false
open Go.RowKit

theorem parts_len (op : Int) (v : List UInt8) (ws : List (List UInt8)) : (partsN op v ws).length ≤ ws.length + 5 := by
  unfold partsN
  repeat' split
  all_goals simp
  all_goals omega
theorem quiet_len {op : Int} {ws : List (List UInt8)} {many : Nat} (h : quietN op ws many = true) : ws.length = many + 1 := by
  unfold quietN at h
  simp only [Bool.and_eq_true, decide_eq_true_eq] at h
  exact h.1.2
section
variable {wB w : World} {D : Nat} {a : Option Addr} {len cap : Nat} {ws : List (List UInt8)}
theorem read_any (hL : Laid wB) (H : Dr wB w.heap.size D w zeroD) (hW : Wu (fun b => b ≠ D) w a len cap ws) (hl : len ≤ 5000) (hb : ∀ y ∈ ws, y.length ≤ 140737488351232) : Calls Tryd.prog 23 #[.pointer (some ⟨D, 0, none⟩), .slice a len cap] w fun e w' => ReadsEnd wB D w (rawN ws) e w' := by
  cases ws with
  | nil =>
    obtain rfl : len = 0 := hW.n.symm
    exact read_nil H a cap
  | cons x ws =>
    rw [show rawN (x :: ws) = if opN x = none then (begun x, t_ERROR) else rawB x ws from rfl]
    cases hop : opN x with
    | none =>
      rw [if_pos rfl]
      exact read_none H hW hop
    | some op =>
      rw [if_neg (by simp)]
      have hn := hW.n
      rw [List.length_cons] at hn
      obtain ⟨ks, hks⟩ : ∃ ks, ks = partsN (begun x).op (begun x).verb ws := ⟨_, rfl⟩
      have hkl : ks.length ≤ 6000 := by have := parts_len (begun x).op (begun x).verb ws; rw [← hks] at this; omega
      have hb2 : ∀ y ∈ ws, y.length ≤ 140737488351232 := fun y hy => hb y (List.mem_cons_of_mem _ hy)
      unfold rawB
      simp only []
      rw [show (begun x).verb = x from rfl] at hks
      rw [← hks]
      cases hq : quietN (begun x).op ws ks.length
      · simp only [Bool.false_eq_true, if_false]
        by_cases he : ws.length = ks.length
        · rw [if_pos he]
          exact read_loud hL H hW hl hb2 hop hks hkl hq he
        · rw [if_neg he]
          exact read_few hL H hW hl hb2 hop hks hkl hq he
      · simp only [if_true]
        have he := quiet_len hq
        rw [if_pos (by rw [List.length_take]; omega)]
        exact read_quiet hL H hW hl hb2 hop hks hkl hq he
end
end Go.Proofs.YthofdmepofepgaaDoor

namespace Go.Proofs.YthofdmepofepgaaDoor
set_option linter.unusedVariables false
open Go.RowKit

theorem info_cmd : (Tryd.prog.info? 38).map (fun i => (i.zero, i.size, i.bytes)) = some (some (.agg #[.int .i64 0, .string ⟨#[]⟩, .slice none 0 0, .int .u32 0, .int .i64 0, .int .u64 0, .int .u64 0, .int .u64 0, .bool false, .bool false]), 10, 96) := by kernel_rfl
/-- Commands as cells, one behind the other. -/
def cmdsV (d : Dv) (va : Option Addr) (vc : Nat) (ks : List (List UInt8)) : List Value := ks.flatMap fun x => (cmC (cmdD d x) va vc).toList
theorem cmdsV_len (d : Dv) (va : Option Addr) (vc : Nat) : ∀ ks : List (List UInt8), (cmdsV d va vc ks).length = ks.length * 10
  | [] => rfl
  | x :: ks => by
    have := cmdsV_len d va vc ks
    simp only [cmdsV, List.flatMap_cons, List.length_append, List.length_cons] at this ⊢
    rw [this]
    show 10 + ks.length * 10 = _
    omega
theorem cmdsV_snoc (d : Dv) (va : Option Addr) (vc : Nat) (ks : List (List UInt8)) (x : List UInt8) : cmdsV d va vc (ks ++ [x]) = cmdsV d va vc ks ++ (cmC (cmdD d x) va vc).toList := by simp [cmdsV]
theorem cmdsV_at (d : Dv) (va : Option Addr) (vc : Nat) : ∀ (ks : List (List UInt8)) (i j : Nat) (v : Value) (x : List UInt8), ks[i]? = some x → (cmC (cmdD d x) va vc).toList[j]? = some v → (cmdsV d va vc ks)[i * 10 + j]? = some v
  | [], i, j, v, x, h, _ => by simp at h
  | y :: ks, 0, j, v, x, h, hj => by
    simp at h
    subst h
    have hl : j < 10 := (List.getElem?_eq_some_iff.1 hj).1
    simp only [cmdsV, List.flatMap_cons]
    rw [List.getElem?_append_left (by show 0 * 10 + j < 10; omega), Nat.zero_mul, Nat.zero_add]
    exact hj
  | y :: ks, i + 1, j, v, x, h, hj => by
    have := cmdsV_at d va vc ks i j v x (by simpa using h) hj
    simp only [cmdsV, List.flatMap_cons] at this ⊢
    rw [List.getElem?_append_right (by show 10 ≤ (i + 1) * 10 + j; omega)]
    have e : (i + 1) * 10 + j - (cmC (cmdD d y) va vc).toList.length = i * 10 + j := by show (i + 1) * 10 + j - 10 = _; omega
    rw [e]
    exact this
section
variable {w : World} {n0 D : Nat} {d : Dv} {a va : Option Addr} {c vc : Nat}
/-- The rows of a request that was made. -/
theorem cu_of {w' : World} {n : Nat} {v : Value} {ks : List (List UInt8)} (h : w'.ownsRow n0 38 10 v n (cmdsV d va vc ks)) (hV : Bu w' va d.val.length vc d.val) : ∃ ca cc, v = .slice ca n cc ∧ Cu w' ca n cc (ks.map (cmdD d)) := by
  obtain ⟨ca, cc, rfl⟩ := own_shape h
  have hl : ks.length = n := by have := h.1; rw [cmdsV_len] at this; omega
  refine ⟨ca, cc, rfl, by rw [List.length_map, hl], (own_cap h).1, (own_cap h).2, ?_⟩
  by_cases h0 : n = 0
  · exact .inl h0
  · obtain ⟨g, cap, e⟩ := own_form h (by omega)
    cases e
    refine .inr ⟨g, 0, rfl, (own_at h rfl).2.1, fun i x hi => ?_⟩
    rw [List.getElem?_map] at hi
    cases hx : ks[i]? with
    | none => rw [hx] at hi; cases hi
    | some y =>
      rw [hx] at hi
      cases hi
      have hin : i < n := by have := (List.getElem?_eq_some_iff.1 hx).1; omega
      refine ⟨va, vc, fun j u hu => ?_, hV⟩
      have hj : j < 10 := (List.getElem?_eq_some_iff.1 hu).1
      rw [Nat.zero_add, h.cellAt (i * 10 + j) (by have := h.1; rw [cmdsV_len] at this; omega)]
      exact cmdsV_at d va vc ks i j u y hx hu
theorem news_row (w : World) (cs : Array Value) (t : TypeId) : ∀ (j : Nat) (u : Value), cs.toList[j]? = some u → (w.alloc (.cells cs t)).cell? ((⟨w.heap.size, 0, none⟩ : Addr).add j) = some u := fun j u hu => by
  rw [add_at, Nat.zero_add]
  unfold World.cell?
  rw [World.alloc_heap_new]
  simpa using hu
theorem su_keys (hK : w.ownsRow n0 9 1 (.slice a d.keys.length c) d.keys.length (strL d.keys)) : Su w a (d.keys.map mkB).length c (d.keys.map mkB) := by
  have h : w.ownsRow n0 9 1 (.slice a d.keys.length c) d.keys.length ((d.keys.map mkB).map Value.string) := by rw [List.map_map]; exact hK
  obtain ⟨a', c', e, hs⟩ := Su.own h
  cases e
  rw [List.length_map]
  exact hs
theorem req_ret {fn : Func} {W : World} {r : Nat} {cs : Array Value} {tmps : Array Value} {p : Tmp} {Post : Ending → World → Prop} (hf : fn.results = #[.cell p 30]) (hb : W.heap[r]? = some (.cells cs 30 (0, 0))) (h4 : tmps.getD p undef = .pointer (some ⟨r, 0, none⟩)) (hz : cs.size = 11)
    (h : Post (.returned (.agg cs)) W) : bodyPost Tryd.prog fn Post .ret { tmps := tmps, defers := [] } W :=
  bodyPost_ret (results_cell_row hf tmps W r 30 cs (0, 0) _ h4 hb Tryd.underlying30 rfl (by rw [hz]; kernel_rfl)) rfl h
/-- The form's cells, one by one. -/
theorem form_cells {W : World} {t : TypeId} (h : W.heap[D]? = some (.cells (drC d a c va vc) t (0, 0))) : W.cell? ⟨D, 0, none⟩ = some (.int .i64 d.dia) ∧ W.cell? ⟨D, 1, none⟩ = some (.string (mkB d.verb)) ∧ W.cell? ⟨D, 2, none⟩ = some (.int .i64 0) ∧ W.cell? ⟨D, 3, none⟩ = some (.int .u32 0) ∧ W.cell? ⟨D, 4, none⟩ = some (.bool d.quiet) ∧ W.cell? ⟨D, 5, none⟩ = some (.bool d.wcas) ∧ W.cell? ⟨D, 6, none⟩ = some (.string ⟨#[]⟩) ∧ W.cell? ⟨D, 7, none⟩ = some (.slice none 0 0) ∧ W.cell? ⟨D, 8, none⟩ = some (.slice a d.keys.length c) ∧ W.cell? ⟨D, 9, none⟩ = some (.bool false) :=
  ⟨dr_at h 0 _ rfl, dr_at h 1 _ rfl, dr_at h 2 _ rfl, dr_at h 3 _ rfl, dr_at h 4 _ rfl, dr_at h 5 _ rfl, dr_at h 6 _ rfl, dr_at h 7 _ rfl, dr_at h 8 _ rfl, dr_at h 9 _ rfl⟩
/-- The keys whose commands are made: nothing, where there is none. -/
def ksD (d : Dv) : List (List UInt8) := if d.keys = [] then [[]] else d.keys
theorem ksD_cmds (d : Dv) : (reqD d).cmds = (ksD d).map (cmdD d) := by
  unfold ksD
  show (if d.keys = [] then _ else _) = _
  split <;> rfl
/-- What request does: a new row of commands. -/
def ReqEnd (d : Dv) (a : Option Addr) (c : Nat) (va : Option Addr) (vc : Nat) (w : World) (e : Ending) (w' : World) : Prop := ∃ ca cc, e = .returned (.agg (rqC (reqD d) ca cc none 0 a c)) ∧ w'.ownsRow (w.heap.size + 1) 38 10 (.slice ca (ksD d).length cc) (ksD d).length (cmdsV d va vc (ksD d)) ∧ w.grownBy w' none
/-- A request's rows, where they lie. -/
theorem qat_of {w' : World} {n1 : Nat} {ca : Option Addr} {cc : Nat} (ho : w'.ownsRow n1 38 10 (.slice ca (ksD d).length cc) (ksD d).length (cmdsV d va vc (ksD d))) (hK : w'.ownsRow n0 9 1 (.slice a d.keys.length c) d.keys.length (strL d.keys)) (hV : Bu w' va d.val.length vc d.val) : QAt w' (reqD d) ca cc none 0 a c := by
  obtain ⟨ca', cc', e, hc⟩ := cu_of ho hV
  cases e
  refine ⟨?_, Su.none_ _, su_keys hK⟩
  rw [ksD_cmds, List.length_map]
  exact hc
theorem req_end {W : World} {v : Value} {n : Nat} {old : Array Value} (hg : w.grownBy W none) (hr : W.heap[w.heap.size]? = some (.cells old 30 (0, 0))) (ho : W.ownsRow (w.heap.size + 1) 38 10 v n (cmdsV d va vc (ksD d))) (hn : (ksD d).length = n) :
    ∃ ca cc, v = .slice ca n cc ∧ (W.setRow w.heap.size (rqC (reqD d) ca cc none 0 a c)).heap[w.heap.size]? = some (.cells (rqC (reqD d) ca cc none 0 a c) 30 (0, 0)) ∧ (W.setRow w.heap.size (rqC (reqD d) ca cc none 0 a c)).ownsRow (w.heap.size + 1) 38 10 (.slice ca (ksD d).length cc) (ksD d).length (cmdsV d va vc (ksD d)) ∧ w.grownBy (W.setRow w.heap.size (rqC (reqD d) ca cc none 0 a c)) none := by
  obtain ⟨ca, cc, rfl⟩ := own_shape ho
  have hg2 : w.grownBy (W.setRow w.heap.size (rqC (reqD d) ca cc none 0 a c)) none := ⟨hg.1, hg.2, hg.3, by rw [size_setRow]; exact hg.size, fun k hk _ => (setRow_other W _ k _ (by omega)).trans (hg.block k hk (by simp))⟩
  have ho2 : (W.setRow w.heap.size (rqC (reqD d) ca cc none 0 a c)).ownsRow (w.heap.size + 1) 38 10 (.slice ca n cc) n (cmdsV d va vc (ksD d)) := own_same ho fun k hk => setRow_other W _ k _ (by have := (own_at ho hk).1; omega)
  subst hn
  exact ⟨ca, cc, rfl, setRow_heap W _ old _ _ _ hr, ho2, hg2⟩
theorem req_cells {n : Nat} (hn : (reqD d).cmds.length = n) (ca : Option Addr) (cc : Nat) : rqC (reqD d) ca cc none 0 a c = #[.slice ca n cc, .int .i64 d.dia, .string (mkB d.verb), .int .i64 0, .int .u32 0, .bool d.quiet, .bool d.wcas, .string ⟨#[]⟩, .slice none 0 0, .slice a d.keys.length c, .bool false] := by
  have e : (reqD d).form.keys.length = d.keys.length := List.length_map _
  unfold rqC
  rw [hn, e]
  rfl
set_option maxRecDepth 100000 in
set_option maxHeartbeats 2000000 in
theorem request_none (hD : w.heap[D]? = some (.cells (drC d a c va vc) 57 (0, 0))) (hK : w.ownsRow n0 9 1 (.slice a d.keys.length c) d.keys.length (strL d.keys)) (hV : Bu w va d.val.length vc d.val) (hk : d.keys = []) : Calls Tryd.prog 24 #[.pointer (some ⟨D, 0, none⟩)] w fun e w' => ReqEnd d a c va vc w e w' := by
  have hlt : D < w.heap.size := (Array.getElem?_eq_some_iff.1 hD).1
  obtain ⟨W0, hW0⟩ : ∃ W0, W0 = w.alloc (.cells #[.slice none 0 0, .int .i64 0, .string ⟨#[]⟩, .int .i64 0, .int .u32 0, .bool false, .bool false, .string ⟨#[]⟩, .slice none 0 0, .slice none 0 0, .bool false] 30) := ⟨_, rfl⟩
  have g0 : w.grownBy W0 none := by rw [hW0]; exact World.grownBy_alloc _ _ _
  have r0 : W0.heap[w.heap.size]? = some (.cells #[.slice none 0 0, .int .i64 0, .string ⟨#[]⟩, .int .i64 0, .int .u32 0, .bool false, .bool false, .string ⟨#[]⟩, .slice none 0 0, .slice none 0 0, .bool false] 30 (0, 0)) := by rw [hW0]; exact World.alloc_heap_new w _
  have hD0 := (g0.block D hlt (by simp)).trans hD
  have q8 := dr_keys hD
  obtain ⟨i0, hi, hz0, hz1, hz2⟩ := info_parts info_cmd
  have hz : W0.heap.size = w.heap.size + 1 := by rw [hW0, World.size_alloc]
  have HD := hide hD
  have HK := hide hK
  have HV := hide hV
  rw [hk, List.length_nil] at q8
  have hr := dr_cmd hD0
  have HC : Hid (ksD d = [[]]) := by show ksD d = _; unfold ksD; rw [if_pos hk]
  have HQ0 := hide (fun ca cc => req_cells (d := d) (a := a) (c := c) (n := 1) (by rw [ksD_cmds, HC.out]; rfl) ca cc)
  have HD0 := hide hD0
  clear hD hK hV hD0 hk
  go_enter Tryd.func24, Tryd.ntmps24
  go_wp2
  rw [← hW0]
  clear hW0
  go_loopw [3, 13] (fun v i wr => v = .slice none 0 0 ∧ i = .int .i64 0 ∧ wr = W0) (fun _ _ _ => 0)
  case atStart => exact ⟨rfl, rfl, rfl⟩
  case round =>
    obtain ⟨rfl, rfl, rfl⟩ := hrel
    go_wp2_with (first
      | (refine wpList_load_mid rfl 38 _ rfl D 10 rfl (cmD d va vc).toList _ hr Tryd.underlying38 rfl (by rw [cm_size d va vc, Array.length_toList]) ?_)
      | (refine wpList_buildSlice rfl 24 38 1 _ rfl (cmC (cmdD d []) va vc) i0 _ Tryd.underlying24 hi hz0 (by rw [hz1]; decide) (by rw [hz1]; decide) (by rw [hz1]; kernel_rfl) ?_)
      | (at_builtin; refine wpList_append_own _ rfl _ _ 24 rfl (w.heap.size + 1) 38 i0 _ 10 96 Tryd.underlying24 hi hz0 hz1 hz2 rfl (by decide) _ 0 [] rfl (World.ownsRow_nil _ _ _ _) ⟨wr.heap.size, 0, none⟩ 1 1 (cmC (cmdD d []) va vc).toList rfl rfl (news_row _ _ _) (fun u hu => Array.all_eq_true_iff_forall_mem.1 (cmd_one (cmdD d []) va vc) u (by simpa using hu)) (by decide) (by decide) (by rw [World.size_alloc, hz]; omega) ?_; intro v' w1 o1 g1 _; have g2 := gr_trans (World.grownBy_alloc wr (.cells (cmC (cmdD d []) va vc) 38) none) g1; have hw1 : w.grownBy w1 none := gr_trans g0 g2; have r1 := (g2.block w.heap.size (by rw [hz]; omega) (by simp)).trans r0; obtain ⟨ca, cc, rfl, e1, e2, e3⟩ := req_end (d := d) (va := va) (vc := vc) (a := a) (c := c) hw1 r1 (by rw [HC.out]; simpa [cmdsV] using o1) (by rw [HC.out]; rfl); obtain ⟨f0, f1, f2, f3, f4, f5, f6, f7, f8, f9⟩ := form_cells ((g2.block D (by rw [hz]; omega) (by simp)).trans HD0.out); have HQ := hide (HQ0.out ca cc); have HR := hide r1; have HE := hide (And.intro e1 (And.intro e2 e3)); clear o1 g1 g2 hw1 r1 e1 e2 e3)
      | (refine wpList_store_row rfl 30 _ _ rfl w.heap.size (rqC (reqD d) ca cc none 0 a c) rfl (by rw [HQ.out]; rfl) _ _ HR.out (req_size _ _ _ _ _ _ _) rfl (req_one _ _ _ _ _ _ _) ?_))
    exact req_ret rfl HE.out.1 rfl rfl ⟨_, _, rfl, HE.out.2⟩
end
end Go.Proofs.YthofdmepofepgaaDoor
