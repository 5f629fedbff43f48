/- A region that draws its order, within a call of a loop's walk or within a round, whose operations read, or grow the world. -/
import Derived.Test.YtgdpplipahhffaaGq
import Derived.Test.YtgdpplipahhffaaQp
import Derived.Shelf.RegionOpen
import Derived.Sort.CutIn
import Derived.OwnWalkIn
import Derived.TacticsInMore
import Derived.LoopNIn
import Derived.LoopIn
import Derived.RangeFuncCalls
import Derived.Stop.RegionWithIn
namespace Go.Proofs.Ytgdpplipahhffaa
open Go.RowKit
set_option linter.unusedVariables false
set_option linter.unusedSimpArgs false

theorem no_depth (n : Nat) : Fence.wide.depth.isSome = true → 1 ≤ n := fun h => absurd h (by simp [Fence.wide])
theorem mf (fn : Fn) (first cap : Array Value) (w : World) : (Instr.makeFunc fn first cap).run Try.prog w = .ok (.func fn first cap) w := rfl
theorem grows_any {n : Nat} {P : Program} {Q : Exit → Act → World → Prop} {a : Act} {w : World} {ops : List Oper} (hB : Region.lexB .any ops.toArray = true)
    (h : wpQuietIn Fence.wide n P ops.toArray (fun w' => ∃ z : Grown w, w' = gw z) (fun a' => ∀ w', (∃ z : Grown w, w' = gw z) → Q .normal a' w') ops a) : wpAnyIn Fence.wide n P .any ops.toArray Q ops.toArray.size (Array.replicate ops.toArray.size false) a { w with drawn := w.drawn + 1 } := by
  simp only [Region.lexB, Bool.and_eq_true] at hB
  refine wpAnyIn_of_quiet (C := fun w' => ∃ z : Grown w, w' = gw z) (Q := fun a' => ∀ w', (∃ z : Grown w, w' = gw z) → Q .normal a' w') rfl (fun _ w' hw' h => h w' hw') _ _ _ _ (gw_drawn w) ?_
  have := wpAnyQIn_lex (F := Fence.wide) (n := n) (C := fun w' => ∃ z : Grown w, w' = gw z) (md := .any) hB.1 ops 0 (Array.replicate ops.toArray.size false) a (by simp) (by simpa using hB.2) (by simpa using h)
  simpa using this
theorem grows_round {l n : Nat} {P : Program} {id : Nat} {Q : Exit → Act → World → Prop} {a : Act} {w : World} {ops : List Oper} (hm : P.follows .mixedOrders = true) (hB : Region.lexB .any ops.toArray = true) (hd : noDefer ops = true)
    (h : wpQuietIn Fence.wide n P ops.toArray (fun w' => ∃ z : Grown w, w' = gw z) (fun a' => ∀ w', (∃ z : Grown w, w' = gw z) → Q .normal a' w') ops a) : (Code.region id ops.toArray true).wpIn (Fence.wide.inRound l) n P Q a w :=
  wpIn_region_any hm (any_round hd _ _ _ _ (grows_any hB h))
theorem grows_wide {n : Nat} {P : Program} {id : Nat} {Q : Exit → Act → World → Prop} {a : Act} {w : World} {ops : List Oper} (hm : P.follows .mixedOrders = true) (hB : Region.lexB .any ops.toArray = true)
    (h : wpQuietIn Fence.wide n P ops.toArray (fun w' => ∃ z : Grown w, w' = gw z) (fun a' => ∀ w', (∃ z : Grown w, w' = gw z) → Q .normal a' w') ops a) : (Code.region id ops.toArray true).wpIn Fence.wide n P Q a w :=
  wpIn_region_any hm (grows_any hB h)
theorem calls_gwIn {n : Nat} {P : Program} {W : World} {f : FuncId} {args : Array Value} {z : Grown W} {v : Value} (h : CallsIn Fence.wide n P f args (gw z) fun e w' => e = .returned v ∧ Below (gw z).heap.size (gw z) w') : CallsIn Fence.wide n P f args (gw z) fun e w'' => e = .returned v ∧ ∃ z' : Grown W, w'' = gw z' :=
  h.mono fun _ _ ⟨he, hb⟩ => ⟨he, gw_next z hb⟩
end Go.Proofs.Ytgdpplipahhffaa
