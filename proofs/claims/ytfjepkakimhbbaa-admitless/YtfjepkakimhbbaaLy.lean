/-
  A region that draws its order, whose operations read, or call what makes memory and leaves all that was as it was.
-/
import Derived.Test.YtfjepkakimhbbaaProg
import Derived.WalkKit
import Derived.Below
import Derived.Deep.QuietTactic
import Derived.BigQuiet
namespace Go.Proofs.Ytfjepkakimhbbaa
open Go.RowKit

/-- A world in which all that was lies as it lay. -/
structure LiesB (w : World) where
  v : World
  h : Below w.heap.size w v
abbrev LyingB (w : World) (w' : World) : Prop := ∃ q : LiesB w, w' = q.v
theorem lyingB_drew (w : World) : LyingB w { w with drawn := w.drawn + 1 } := ⟨⟨{ w with drawn := w.drawn + 1 }, ⟨rfl, rfl, rfl, Nat.le_refl _, fun _ _ => rfl⟩⟩, rfl⟩
theorem region_lies {P : Program} {id : Nat} {Q : Exit → Act → World → Prop} {a : Act} {w : World} {l : List Oper} (hm : P.follows .mixedOrders = true) (hB : Region.lexB .any l.toArray = true)
    (h : wpQuiet P l.toArray (LyingB w) (fun a' => ∀ w', LyingB w w' → Q .normal a' w') l a) : (Code.region id l.toArray true).wp P Q a w :=
  wp_region_quiet (C := LyingB w) hm hB (lyingB_drew w) (by simpa using h)
/-- A callee that leaves all as it lay, met in a world of the class. -/
theorem lies_call {P : Program} {f : FuncId} {args : Array Value} {w : World} {v : Value} (h : ∀ W, Calls P f args W fun e w' => e = .returned v ∧ Below W.heap.size W w') (q : LiesB w) : Calls P f args q.v fun e w' => e = .returned v ∧ LyingB w w' :=
  (h q.v).mono fun _ w' ⟨he, hb⟩ => ⟨he, ⟨w', q.h.trans (hb.mono q.h.size)⟩, rfl⟩
theorem mixedT : Try.prog.follows .mixedOrders = true := by kernel_rfl
end Go.Proofs.Ytfjepkakimhbbaa
