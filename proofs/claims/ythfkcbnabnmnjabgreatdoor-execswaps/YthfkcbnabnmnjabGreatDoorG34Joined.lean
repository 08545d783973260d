/- Package shard keeps its contracts, wherever the packages beneath it do. Conditions: the contracts of the packages beneath it; at most 900 stores. Package shard keeps its contracts: those of the packages beneath it are kept too. Conditions: none. -/
import Derived.Test.YthfkcbnabnmnjabGreatDoorG31Joined
import Derived.Test.YthfkcbnabnmnjabGreatDoorG32Joined
import Derived.Test.YthfkcbnabnmnjabGreatDoorG17Joined
import Derived.Test.YthfkcbnabnmnjabGreatDoorG21Joined
import Derived.Test.YthfkcbnabnmnjabGreatDoorG12Joined
import Derived.Test.YthfkcbnabnmnjabGreatDoorTableFin
import Derived.Test.YthfkcbnabnmnjabGreatDoorItemLibF
namespace Go.Proofs.YthfkcbnabnmnjabGreatDoor
open Go.RowKit Go.Shelf
variable {Sl : World → Nat → (Nat → Prop) → Sb → Prop} {Ls : World → Nat → (Nat → Prop) → Sr → Prop} {Jd : World → Nat → List Nat → Nat → Js → Prop} {Tb : World → Nat → (Nat → Prop) → Ts → Prop}
section
variable {L : Libs Sl Ls Jd Tb} {w : World} {b sd n : Nat} {st : Hs} {x : Sx} {own : Nat → Prop}
theorem sh_lt (h : Sh0 L w b own sd n st) : ∀ k, own k → k < w.heap.size := by
  obtain ⟨x, rfl, h2, h3, h4⟩ := h
  exact h3
theorem sh_after {w0 w' : World} {st' : Hs} {E : List Eb} (h : After L own w0 w' b sd n Part.emp st' E) : ∃ own', Sh0 L w' b own' sd n st' ∧ Gr own w0 w' ∧ Grew w0 own own' := by
  obtain ⟨x', H', f', -⟩ := h
  exact ⟨_, Sh0.of H' f'⟩
theorem sh_grown {w' : World} (h : Sh0 L w b own sd n st) (hg : w.grownBy w' none) : Sh0 L w' b own sd n st := h.keep fun k hk => hg.block k (sh_lt h k hk) (by simp)
theorem sh_look (h : Sh0 L w b own sd n st) (hn : n ≤ 4398046511104) (s : ByteArray) (en : En) (hs : s.size ≤ 140737488351232) (hen : en.ok) : Calls Tryz.prog 14 #[.pointer (some ⟨b, 0, none⟩), .string s, .agg (enC en)] w (LookEnd (Sh0 L) w b own sd n st s en) := by
  obtain ⟨x, H, f⟩ := h.law
  have hlv := (look_found f s en).2
  refine (look_in H f hn s hs en hen).mono ?_
  rintro e w' (⟨h1, rfl, h2⟩ | ⟨y, a, c, x', h1, rfl, H', f'⟩)
  · obtain ⟨own', g1, g2, g3⟩ := sh_after h2
    rw [h1] at hlv
    exact ⟨own', g1, g2, g3, .inl ⟨hlv.symm, rfl⟩⟩
  · obtain ⟨g1, g2, g3⟩ := Sh0.of H' f'
    rw [h1] at hlv
    exact ⟨_, g1, g2, g3, .inr ⟨y.ent, a, c, hlv.symm, rfl, H'.q.2.1.1, fun k hk h' => H'.q.2.2 k h' (.inl hk)⟩⟩
end
theorem shard_lib (L : Libs Sl Ls Jd Tb) : ShardLib (Sh0 L) where
  lt := sh_lt
  good := fun ⟨_, _, _, _, f⟩ => f.good
  keep := Sh0.keep
  mono := fun ⟨x, h1, h2, h3, f⟩ hm hl => ⟨x, h1, h2, h3, ⟨f.small, f.tab, f.ents, f.blks, goodH_mono f.good hm hl⟩⟩
  new := fun sd bud most h1 h2 h3 w => shNew_any sd bud most h1 h2 h3 w
  look := fun h hn s en hs hen => sh_look h hn s en hs hen
  use := fun h hn s hs => by
    obtain ⟨x, H, f⟩ := h.law
    exact (use_in H f hn s hs).mono fun e w' ⟨h1, h2⟩ => ⟨h1, sh_after h2⟩
  store := fun h hn hl i a c en hi hrd hen => by
    obtain ⟨x, H, f⟩ := h.law
    exact (store_in H f hn hl i hi a c hrd en hen).mono fun e w' ⟨h1, E, h2⟩ => ⟨h1, sh_after h2⟩
  update := fun h hn i a c hi hrd => by
    obtain ⟨x, H, f⟩ := h.law
    exact (update_in H f hn i hi a c hrd).mono fun e w' ⟨h1, E, h2⟩ => ⟨h1, sh_after h2⟩
  remove := fun h hn s hs => by
    obtain ⟨x, H, f⟩ := h.law
    exact (remove_in H f hn s hs).mono fun e w' ⟨h1, h2⟩ => ⟨h1, sh_after h2⟩
end Go.Proofs.YthfkcbnabnmnjabGreatDoor

namespace Go.Proofs.YthfkcbnabnmnjabGreatDoor
theorem libs0 : Libs Sl0 Ls0 (Jd0 Fil0 Sk0) Tb0 := ⟨slab_lib, slru_lib, tiny_lib, table_lib, item_lib⟩
theorem shard_lib0 : ShardLib (Sh0 libs0) := shard_lib libs0
/-- With those of slab and item. -/
theorem shard_lib3 : ShardLib (Sh0 libs0) ∧ SlabLib Sl0 ∧ ItemLib := ⟨shard_lib0, slab_lib, item_lib⟩
end Go.Proofs.YthfkcbnabnmnjabGreatDoor
