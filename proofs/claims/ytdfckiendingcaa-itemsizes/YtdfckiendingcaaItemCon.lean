/- The contracts of package item. Nothing of the program is walked here. Conditions: none. -/
import Derived.Test.YtdfckiendingcaaItemM
namespace Go.Proofs.Ytdfckiendingcaa
open Go.RowKit

structure ItemLib : Prop where
  size : ∀ (i : It) (w : World), i.key.size ≤ 100000 → i.vl ≤ 100000 → Calls Try.prog 15 #[.agg (itC i)] w fun e w' => e = .returned (.int .i64 (50 + (i.key.size : Nat) + (i.vl : Nat))) ∧ Gd w w'
  at_ : ∀ (exp now : Int), T40 exp → N41 now → ∀ w : World, Calls Try.prog 11 #[.int .i64 exp, .int .i64 now] w fun e w' => e = .returned (.int .i64 (atN exp now)) ∧ Gd w w'
  ttl : ∀ (i : It) (now : Int), i.ok → I64 now → ∀ w : World, Calls Try.prog 13 #[.agg (itC i), .int .i64 now] w fun e w' => e = .returned (.int .i64 (ttlN i.exp now)) ∧ Gd w w'
  live : ∀ (i : It) (e : En), i.ok → e.ok → ∀ w : World, Calls Try.prog 17 #[.agg (itC i), .agg (enC e)] w fun x w' => x = .returned (.bool (liveN i.exp i.sec i.seq e)) ∧ Gd w w'
  flush : ∀ (exp : Int) (e : En), T40 exp → e.ok → N41 e.now → ∀ w : World, Calls Try.prog 19 #[.int .i64 exp, .agg (enC e)] w fun x w' => x = .returned (.agg (enC (flushN exp e))) ∧ Gd w w'
end Go.Proofs.Ytdfckiendingcaa
