/- The chapter's example, reckoned. Conditions: none. -/
import Derived.Test.YtckjjfkfapfdaaaGreatG35Joined
import Derived.Test.YtckjjfkfapfdaaaGreatG00Joined
namespace Go.Proofs.YtckjjfkfapfdaaaGreat
open Go.RowKit Go.Shelf
variable {Sh : World → Nat → (Nat → Prop) → Nat → Nat → Hs → Prop}

def keyI (c : UInt8) : Iv := ⟨⟨#[c]⟩, [], 0, 0, 0, 0, 0, false, false, false⟩
def env1 : En := ⟨1, 0, 0, 0⟩
def aw1 : Hs := (storeH 1 (freshH 128 1) (keyI 97) env1).2
def aw2 : Hs := (storeH 1 aw1 (keyI 98) env1).2
def aw3 : Hs := (storeH 1 aw2 (keyI 99) env1).2
def aw4 : Hs := useH 1 aw3 ⟨#[99]⟩
def aw5 : Hs := useH 1 aw4 ⟨#[99]⟩
def aw6 : Hs := (storeH 1 aw5 (keyI 99) env1).2
theorem aw1_is : (storeH 1 (freshH 128 1) (keyI 97) env1).1 = 0 := by kernel_rfl
theorem aw2_is : (storeH 1 aw1 (keyI 98) env1).1 = 0 ∧ usedS aw2.slab = 128 := ⟨by kernel_rfl, by kernel_rfl⟩
theorem aw3_is : (storeH 1 aw2 (keyI 99) env1).1 = 8 := by kernel_rfl
theorem aw6_is : (storeH 1 aw5 (keyI 99) env1).1 = 0 := by kernel_rfl
theorem aw6_drops : aw6.drops = [⟨#[97]⟩] := by kernel_rfl
theorem aw6_len : aw6.ents.length = 2 := by kernel_rfl
theorem i64_lit (a : Int) (h : -9223372036854775808 ≤ a ∧ a < 9223372036854775808 := by decide) : I64 a := h
theorem u64_lit (a : Int) (h : 0 ≤ a ∧ a < 18446744073709551616 := by decide) : U64 a := h
theorem keyI_ok (c : UInt8) : (keyI c).ok := ⟨show 1 ≤ 300 by decide, show 0 ≤ 3000 by decide, i64_lit 0, i64_lit 0, u64_lit 0⟩
theorem env1_ok : env1.ok := ⟨i64_lit 1, u64_lit 0, i64_lit 0, u64_lit 0⟩
theorem pairI {α : Type} (p : Int × α) (x : Int) (y : α) (h1 : p.1 = x) (h2 : p.2 = y) : p.1 = x ∧ p.2 = y := ⟨h1, h2⟩
theorem aw_ex : ∃ h1 h2 h3 h4 h5 h6 : Hs, ((storeH 1 (freshH 128 1) (keyI 97) env1).1 = 0 ∧ (storeH 1 (freshH 128 1) (keyI 97) env1).2 = h1) ∧ ((storeH 1 h1 (keyI 98) env1).1 = 0 ∧ (storeH 1 h1 (keyI 98) env1).2 = h2) ∧ usedS h2.slab = 128 ∧ ((storeH 1 h2 (keyI 99) env1).1 = 8 ∧ (storeH 1 h2 (keyI 99) env1).2 = h3) ∧
    useH 1 h3 ⟨#[99]⟩ = h4 ∧ useH 1 h4 ⟨#[99]⟩ = h5 ∧ ((storeH 1 h5 (keyI 99) env1).1 = 0 ∧ (storeH 1 h5 (keyI 99) env1).2 = h6) ∧ h6.drops = [⟨#[97]⟩] ∧ ((quietH h6).ents.length : Int) = 2 :=
  ⟨aw1, aw2, aw3, aw4, aw5, aw6, ⟨aw1_is, rfl⟩, ⟨aw2_is.1, rfl⟩, aw2_is.2, ⟨aw3_is, rfl⟩, rfl, rfl, ⟨aw6_is, rfl⟩, aw6_drops, by rw [show (quietH aw6).ents = aw6.ents from rfl, aw6_len]; rfl⟩
theorem read_none (w : World) (own : Nat → Prop) : ReadAt w own none 0 [] := ⟨.inl ⟨rfl, rfl, fun _ => rfl⟩, fun _ h => by simp at h⟩
/-- The env in its box, beside the shard. -/
theorem Law.envAt {w0 w : World} {A R : Part} {k : Nat} {en : En} (H : Law w0 w (A.and ((boxP k (.cells (enC en) 36)).and R))) : w.heap[k]? = some (.cells (enC en) 36 (0, 0)) := H.q.2.1.1
set_option maxRecDepth 100000 in
set_option maxHeartbeats 4000000 in
theorem awake_any (L : ShardLib Sh) (w : World) : Calls Tryz.prog 8 #[] w fun e w' => e = .returned (.bool true) ∧ Below w.heap.size w w' := by
  obtain ⟨h1, h2, h3, h4, h5, h6, ⟨p1, q1⟩, ⟨p2, q2⟩, u2, ⟨p3, q3⟩, q4, q5, ⟨p6, q6⟩, d6, l6⟩ := aw_ex
  have A1 := hide (And.intro p1 q1)
  have A2 := hide (And.intro p2 q2)
  have U2 := hide u2
  have A3 := hide (And.intro p3 q3)
  have A4 := hide q4
  have A5 := hide q5
  have A6 := hide (And.intro p6 q6)
  have D6 := hide d6
  have L6 := hide l6
  clear p1 q1 p2 q2 u2 p3 q3 q4 q5 p6 q6 d6 l6
  go_enter Tryz.func8, Tryz.ntmps8
  go_wp2_with (first
    | (go_at_call 10; refine (shNew_is L (Law.start w) 1 128 1 (by decide) (i64_lit 128) (i64_lit 1)).mono ?_; rintro e w1 ⟨b, own, rfl, H0⟩; have HB := H0.box (.cells (enC ⟨0, 0, 0, 0⟩) 36); clear H0)
    | (refine wpList_store_row rfl 36 _ _ rfl w1.heap.size (enC env1) rfl rfl _ (enC ⟨0, 0, 0, 0⟩) HB.q.1 (env_size _) rfl (env_one _) ?_; have H := (f_law ((law_f HB).setRow (enC env1))).rot; clear HB)
    | (refine wpList_load_row rfl 36 _ rfl w1.heap.size rfl _ (enC env1) _ _ H.envAt Tryz.underlying36 rfl (env_size _) ?_)
    | (go_at_call 22; refine (shStore_is L H (by decide) (keyI 97) none 0 env1 (keyI_ok _) (read_none _ _) env1_ok _ _ A1.out.1 A1.out.2).mono ?_; clear A1 H; rintro e w2 ⟨rfl, own2, H⟩)
    | (go_at_call 22; refine (shStore_is L H (by decide) (keyI 98) none 0 env1 (keyI_ok _) (read_none _ _) env1_ok _ _ A2.out.1 A2.out.2).mono ?_; clear A2 H; rintro e w3 ⟨rfl, own3, H⟩)
    | (go_at_call 15; refine (shUsed_is L H (by decide) _ U2.out).mono ?_; clear U2 H; rintro e w4 ⟨rfl, H⟩)
    | (go_at_call 22; refine (shStore_is L H (by decide) (keyI 99) none 0 env1 (keyI_ok _) (read_none _ _) env1_ok _ _ A3.out.1 A3.out.2).mono ?_; clear A3 H; rintro e w5 ⟨rfl, own5, H⟩)
    | (go_at_call 21; refine (shUse_is L H (by decide) ⟨#[99]⟩ (by decide) _ A4.out).mono ?_; clear A4 H; rintro e w6 ⟨⟨x6, rfl⟩, own6, H⟩)
    | (go_at_call 21; refine (shUse_is L H (by decide) ⟨#[99]⟩ (by decide) _ A5.out).mono ?_; clear A5 H; rintro e w7 ⟨⟨x7, rfl⟩, own7, H⟩)
    | (go_at_call 22; refine (shStore_is L H (by decide) (keyI 99) none 0 env1 (keyI_ok _) (read_none _ _) env1_ok _ _ A6.out.1 A6.out.2).mono ?_; clear A6 H; rintro e w8 ⟨rfl, own8, H⟩)
    | (go_at_call 19; refine (shDrops_is L H _ D6.out).mono ?_; clear D6 H; rintro e w9 ⟨v, own9, rfl, H⟩; obtain ⟨g, cap, rfl⟩ := own_form (show _ from H.q.2.1.1) (by decide); have hcg : w9.cell? ⟨g, 0, none⟩ = some (.string ⟨#[97]⟩) := World.ownsRow.cellAt (show w9.ownsRow 0 9 1 (.slice (some ⟨g, 0, none⟩) 1 cap) 1 [.string ⟨#[97]⟩] from H.q.2.1.1) 0 (by decide); obtain ⟨hc1, hc2⟩ := own_cap (show w9.ownsRow 0 9 1 (.slice (some ⟨g, 0, none⟩) 1 cap) 1 [.string ⟨#[97]⟩] from H.q.2.1.1); unfold maxLen at hc2)
    | (go_at_call 17; refine (shLen_is L H (by decide) _ L6.out).mono ?_; clear L6 H; rintro e w10 ⟨rfl, H⟩))
  go_ret
  exact ⟨rfl, H.below⟩
theorem below_gr' {w w' : World} (h : Below w.heap.size w w') : w.grownBy w' none := ⟨h.os, h.tape, h.output, h.size, fun k hk _ => h.block k hk⟩
/-- The cells of a call's item and env. -/
abbrev Has14 (c off k : Nat) (o : Op11) (w : World) : Prop := w.cell? ⟨c, off + k * 15 + 1, none⟩ = some (.string o.iv.key) ∧ w.cell? ⟨c, off + k * 15 + 1 + 1, none⟩ = some (.slice o.a o.iv.val.length o.c) ∧ w.cell? ⟨c, off + k * 15 + 1 + 2, none⟩ = some (.int .u32 o.iv.fl) ∧ w.cell? ⟨c, off + k * 15 + 1 + 3, none⟩ = some (.int .i64 o.iv.exp) ∧ w.cell? ⟨c, off + k * 15 + 1 + 4, none⟩ = some (.int .u64 o.iv.cas) ∧ w.cell? ⟨c, off + k * 15 + 1 + 5, none⟩ = some (.int .i64 o.iv.sec) ∧ w.cell? ⟨c, off + k * 15 + 1 + 6, none⟩ = some (.int .u64 o.iv.seq) ∧ w.cell? ⟨c, off + k * 15 + 1 + 7, none⟩ = some (.bool o.iv.st) ∧ w.cell? ⟨c, off + k * 15 + 1 + 8, none⟩ = some (.bool o.iv.won) ∧ w.cell? ⟨c, off + k * 15 + 1 + 9, none⟩ = some (.bool o.iv.seen) ∧ w.cell? ⟨c, off + k * 15 + 11, none⟩ = some (.int .i64 o.en.now) ∧ w.cell? ⟨c, off + k * 15 + 11 + 1, none⟩ = some (.int .u64 o.en.seq) ∧ w.cell? ⟨c, off + k * 15 + 11 + 2, none⟩ = some (.int .i64 o.en.flush) ∧ w.cell? ⟨c, off + k * 15 + 11 + 3, none⟩ = some (.int .u64 o.en.fseq)
theorem OpCell.has {w : World} {c off k : Nat} {o : Op11} (h : OpCell w c off k o) : Has14 c off k o w := ⟨h.it 0 _ rfl, h.it 1 _ rfl, h.it 2 _ rfl, h.it 3 _ rfl, h.it 4 _ rfl, h.it 5 _ rfl, h.it 6 _ rfl, h.it 7 _ rfl, h.it 8 _ rfl, h.it 9 _ rfl, h.en 0 _ rfl, h.en 1 _ rfl, h.en 2 _ rfl, h.en 3 _ rfl⟩
end Go.Proofs.YtckjjfkfapfdaaaGreat
