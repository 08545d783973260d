/- The chapter's example, as every statement of layer 17 asks it first. Conditions: what the package is asked for. -/
import Derived.Test.YtaafkefgpgoepaaBoLib
namespace Go.Proofs.Ytaafkefgpgoepaa
set_option linter.unusedVariables false
open Go.RowKit Go.Shelf

def awC : Cv := ⟨14, ⟨#[]⟩, [], 0, 0, 0, 0, 0, false, false⟩
def awQ : Qv := ⟨[awC], ⟨0, ⟨#[]⟩, 10, 7, false, false, ⟨#[]⟩, [], [], false⟩⟩
def awR : Rv := ⟨10, [], 0, 0, 0, 0, false, false, false⟩
def awL : List UInt8 := [129, 10, 0, 0, 0, 0, 0, 0, 0, 0, 0, 0, 0, 0, 0, 7, 0, 0, 0, 0, 0, 0, 0, 0]
def awP : Av := ⟨10, 0, 7, 0, [], [], [], 24⟩
theorem aw_enc : encA awQ [awR] = awL := by kernel_rfl
theorem aw_reads : ReadsA awL awP := by
  have h := pack_reads (c := 10) (opq := 7) (st := 0) (cas := 0) (x := []) (key := []) (v := []) (more := []) (by decide) (by decide) (by decide) (by decide) (by decide) (by decide) (by decide) (by decide) (by decide)
  rw [List.append_nil] at h
  have e : packA 10 7 0 0 [] [] [] = awL := aw_enc
  rw [e] at h
  exact h
/-- The example's blocks. -/
def awA : Obj := .cells #[.int .i64 14, .string ⟨#[]⟩, .slice none 0 0, .int .u32 0, .int .i64 0, .int .u64 0, .int .u64 0, .int .u64 0, .bool false, .bool false] 48
def awB (n : Nat) : Obj := .cells #[.slice (some ⟨n, 0, none⟩) 1 1, .int .i64 0, .string ⟨#[]⟩, .int .i64 10, .int .u32 7, .bool false, .bool false, .string ⟨#[]⟩, .slice none 0 0, .slice none 0 0, .bool false] 28
def awX : Obj := .cells #[.int .i64 10, .slice none 0 0, .int .u32 0, .int .u64 0, .int .i64 0, .int .u64 0, .bool false, .bool false, .bool false] 46
def awW (w : World) : World := ((w.alloc awA).alloc (awB w.heap.size)).alloc awX
theorem awW_gr (w : World) : w.grownBy (awW w) none := gr_trans (World.grownBy_alloc _ _ _) (gr_trans (World.grownBy_alloc _ _ _) (World.grownBy_alloc _ _ _))
theorem range_new {w : World} {g : Nat} {cs : Array Value} {t : TypeId} {fr : Nat × Nat} (h : w.heap[g]? = some (.cells cs t fr)) : w.rangeAt g 0 cs.toList := fun j v hv => by
  rw [Nat.zero_add]
  unfold World.cell?
  rw [h]
  rw [Array.getElem?_toList] at hv
  exact hv
theorem awW_blocks (w : World) : (awW w).heap[w.heap.size]? = some awA ∧ (awW w).heap[w.heap.size + 1 + 1]? = some awX ∧ (awW w).heap.size = w.heap.size + 3 := by
  obtain ⟨W1, h1⟩ : ∃ W1, W1 = w.alloc awA := ⟨_, rfl⟩
  obtain ⟨W2, h2⟩ : ∃ W2, W2 = W1.alloc (awB w.heap.size) := ⟨_, rfl⟩
  obtain ⟨W3, h3⟩ : ∃ W3, W3 = W2.alloc awX := ⟨_, rfl⟩
  have e : awW w = W3 := by rw [h3, h2, h1]; rfl
  have s1 : W1.heap.size = w.heap.size + 1 := by rw [h1, World.size_alloc]
  have s2 : W2.heap.size = w.heap.size + 1 + 1 := by rw [h2, World.size_alloc, s1]
  have b1 : W1.heap[w.heap.size]? = some awA := by rw [h1]; exact World.alloc_heap_new w _
  have b3 : W3.heap[w.heap.size + 1 + 1]? = some awX := by rw [h3, ← s2]; exact World.alloc_heap_new W2 _
  have g12 : W1.grownBy W2 none := by rw [h2]; exact World.grownBy_alloc _ _ _
  have g23 : W2.grownBy W3 none := by rw [h3]; exact World.grownBy_alloc _ _ _
  rw [e]
  exact ⟨((gr_trans g12 g23).block _ (by omega) (by simp)).trans b1, b3, by rw [h3, World.size_alloc, s2]⟩
theorem aw_start (w : World) : QAt (awW w) awQ (some ⟨w.heap.size, 0, none⟩) 1 none 0 none 0 ∧ Ru (awW w) (some ⟨w.heap.size + 1 + 1, 0, none⟩) 1 1 [awR] := by
  obtain ⟨b1, b2, hs⟩ := awW_blocks w
  have one : ∀ {α : Type} {a b : α} {i : Nat}, [a][i]? = some b → i = 0 ∧ b = a := fun {α a b i} h => by
    cases i with
    | zero => exact ⟨rfl, (Option.some.inj h).symm⟩
    | succ i => simp at h
  have hm : (1 : Nat) ≤ maxLen := by decide
  refine ⟨⟨⟨rfl, Nat.le_refl _, hm, .inr ⟨w.heap.size, 0, rfl, by omega, fun i c hi => ?_⟩⟩, Su.none_ _, Su.none_ _⟩, ⟨rfl, Nat.le_refl _, hm, fun x hx => ?_, .inr ⟨w.heap.size + 1 + 1, 0, rfl, by omega, fun i c hi => ?_⟩⟩⟩
  · obtain ⟨rfl, rfl⟩ := one hi
    exact ⟨none, 0, range_new b1, rfl, .inl ⟨rfl, rfl, fun _ => rfl⟩, Nat.le_refl _, Nat.zero_le _⟩
  · obtain rfl : x = awR := by simpa using hx
    exact ⟨by decide, by decide, by decide, by decide, by decide, by decide⟩
  · obtain ⟨rfl, rfl⟩ := one hi
    exact ⟨none, 0, range_new b2, rfl, .inl ⟨rfl, rfl, fun _ => rfl⟩, Nat.le_refl _, Nat.zero_le _⟩
theorem aw_few : FewR awQ [awR] := by
  refine ⟨by decide, by decide, fun c hc => ?_, fun x hx => ?_⟩
  · obtain rfl : c = awC := by simpa [awQ] using hc
    show (⟨#[]⟩ : ByteArray).size ≤ 1000
    decide
  · obtain rfl : x = awR := by simpa using hx
    decide
theorem convB {w : World} {a : Option Addr} {len cap : Nat} {l : List UInt8} (h : Bu w a len cap l) : (convert 32 9 (.slice a len cap)).run Try.prog w = .ok (.string (strOf (ints l))) w := conv_bs h.b
theorem bu_at {w : World} {a : Option Addr} {n cap : Nat} {l : List UInt8} (h : Bu w a n cap l) (hn : n ≠ 0) : ∃ g off, a = some ⟨g, off, none⟩ := by
  rcases h.b with ⟨h1, _, _⟩ | ⟨g, off, r⟩
  · exact absurd h1 hn
  · exact ⟨g, off, r.at_⟩
theorem bu_cell {w : World} {b off n cap : Nat} {l : List UInt8} (h : Bu w (some ⟨b, off, none⟩) n cap l) (i : Nat) (hi : i < l.length) : w.cell? ⟨b, off + i, none⟩ = some (.int .u8 (l[i].toNat : Int)) := first_byte h i (by have := h.n; omega)
theorem pt_size (a : Av) (xa : Option Addr) (xc : Nat) (ka : Option Addr) (kc : Nat) (va : Option Addr) (vc : Nat) : (Try.prog.info? 38).map (·.size) = some (ptC a xa xc ka kc va vc).size := by
  have h : (Try.prog.info? 38).map (·.size) = some 3 := by kernel_rfl
  exact h
theorem pt_one (a : Av) (xa : Option Addr) (xc : Nat) (ka : Option Addr) (kc : Nat) (va : Option Addr) (vc : Nat) : (ptC a xa xc ka kc va vc).all (·.oneCell') = true := by simp [ptC, Value.oneCell']
set_option maxRecDepth 100000 in
set_option maxHeartbeats 4000000 in
theorem awake_any (L : BoLib) {w : World} : Calls Try.prog 8 #[] w fun e w' => e = .returned (.bool true) ∧ w.grownBy w' none := by
  obtain ⟨hq, hx⟩ := aw_start w
  have HE := hide (L.enc _ _ _ _ _ _ _ _ _ _ _ hq hx aw_few (by decide) (by decide))
  rw [aw_enc] at HE
  have HR := hide (fun (W : World) (a : Option Addr) (n c : Nat) (h : Bu W a n c awL) (hn : n ≤ 100000) => L.read W a n c awL awP h (by omega) aw_reads)
  have HC := hide (fun W => L.code 1 W)
  rw [show codeN 1 = 1 from by decide] at HC
  have HG := hide (awW_gr w)
  clear hq hx
  go_enter Try.func8, Try.ntmps8
  go_wp2_with (first
    | (go_at_call 10; refine Calls.mono HE.out ?_; rintro e w1 ⟨a1, n1, c1, rfl, l1, b1, g1⟩; obtain ⟨g, off, rfl⟩ : ∃ g off, a1 = some ⟨g, off, none⟩ := bu_at b1 (by rw [← b1.n]; decide); have e1 : n1 = 24 := b1.n.symm; subst e1; replace b1 := hide b1; replace g1 := hide g1; clear HE)
    | (go_at_call 14; refine Calls.mono (HR.out _ _ _ _ b1.out l1) ?_; rintro e w2 ⟨xa, xc, ka, kc, va, vc, rfl, -, -, -, g2⟩; obtain ⟨W2, hW2⟩ : ∃ W2, W2 = w2.alloc (.cells (ptC awP xa xc ka kc va vc) 38) := ⟨_, rfl⟩; have k2 : w2.grownBy W2 none := (by rw [hW2]; exact World.grownBy_alloc _ _ _); have b2 := b1.out.on (below_gr (gr_trans g2 k2)); have d0 : W2.cell? ⟨g, off, none⟩ = some (.int .u8 129) := bu_cell b2 0 (by decide); have d15 : W2.cell? ⟨g, off + 15, none⟩ = some (.int .u8 7) := bu_cell b2 15 (by decide); have G2 := hide (gr_trans HG.out (gr_trans g1.out (gr_trans g2 k2))); clear g2 k2 b2 b1 g1 HR HG)
    | (refine wpList_store_row rfl 38 _ _ rfl w2.heap.size (ptC awP xa xc ka kc va vc) rfl rfl _ _ (World.alloc_heap_new w2 _) (pt_size _ _ _ _ _ _ _) rfl (pt_one _ _ _ _ _ _ _) ?_; rw [setRow_alloc, ← hW2]; clear hW2)
    | (go_at_call 12; refine (HC.out _).mono ?_; rintro e w6 ⟨rfl, rfl⟩))
  go_ret
  exact ⟨by first | rfl | (simp; done), G2.out⟩
end Go.Proofs.Ytaafkefgpgoepaa
