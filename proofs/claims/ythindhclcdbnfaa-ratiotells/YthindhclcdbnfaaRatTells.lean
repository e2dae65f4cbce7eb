/-
  The walk of RatioTells.
-/
import Derived.Test.YthindhclcdbnfaaRatC
import Derived.Test.YthindhclcdbnfaaRatT
namespace Go.Proofs.Ythindhclcdbnfaa
open Go.RowKit
set_option linter.unusedVariables false

/-- An answer of a ratio, whatever it is. -/
def RatD (f : Nat) (args : Array Value) (r : Int × Int) : Prop := Hid (∀ W, Calls Try.prog f args W fun E w' => E = .returned (.tuple #[.int .i64 r.1, .int .i64 r.2]) ∧ Below W.heap.size W w')
def YesC (f : Nat) (args : Array Value) : Prop := Hid (∀ W, Calls Try.prog f args W fun E w' => E = .returned (.bool true) ∧ Below W.heap.size W w')

set_option maxRecDepth 20000 in
theorem rtells_core (q t : Int) (up : Bool) (r1 r2 r3 : Int × Int)
    (c1 : RatD 10 #[.int .i64 q, .int .i64 t] r1) (c2 : RatD 11 #[.int .i64 q, .int .i64 t] r2) (c3 : RatD 12 #[.int .i64 q, .int .i64 t, .bool up] r3)
    (d1 : YesC 13 #[.int .i64 r1.1, .int .i64 r1.2, .agg #[.int .i64 q, .int .i64 1048576, .int .i64 t], .bool true])
    (d2 : YesC 13 #[.int .i64 r2.1, .int .i64 r2.2, .agg #[.int .i64 q, .int .i64 1048576, .int .i64 t], .bool false])
    (d3 : YesC 13 #[.int .i64 r3.1, .int .i64 r3.2, .agg #[.int .i64 q, .int .i64 t, .int .i64 1048576], .bool up]) (cA : AwC) (w : World) :
    Calls Try.prog 3 #[.int .i64 q, .int .i64 t, .bool up] w fun E w' => E = .returned (.bool true) ∧ Below w.heap.size w w' := by
  go_enter Try.func3, Try.ntmps3
  go_wp2_with fail
  refine (Hid.out c1 _).mono ?_
  rintro E w1 ⟨rfl, b1⟩
  go_wp2_with fail
  refine (Hid.out c2 _).mono ?_
  rintro E w2 ⟨rfl, b2⟩
  go_wp2_with fail
  refine (Hid.out c3 _).mono ?_
  rintro E w3 ⟨rfl, b3⟩
  go_wp2_with fail
  refine (Hid.out d1 _).mono ?_
  rintro E w4 ⟨rfl, b4⟩
  go_wp2_with fail
  refine (Hid.out d2 _).mono ?_
  rintro E w5 ⟨rfl, b5⟩
  go_wp2_with fail
  refine (Hid.out d3 _).mono ?_
  rintro E w6 ⟨rfl, b6⟩
  go_wp2_with fail
  refine (Hid.out cA _).mono ?_
  rintro E w7 ⟨rfl, b7⟩
  go_wp2
  go_ret
  have q2 := b1.trans (b2.mono b1.size)
  have q3 := q2.trans (b3.mono q2.size)
  have q4 := q3.trans (b4.mono q3.size)
  have q5 := q4.trans (b5.mono q4.size)
  have q6 := q5.trans (b6.mono q5.size)
  exact ⟨rfl, q6.trans (b7.mono q6.size)⟩

theorem walk_RatioTells (q t : Int) (up : Bool) (w : World) (hq : -9223372036854775808 ≤ q ∧ q ≤ 9223372036854775807) (ht : -9223372036854775808 ≤ t ∧ t ≤ 9223372036854775807) :
    Calls Try.prog 3 #[.int .i64 q, .int .i64 t, .bool up] w fun E w' => E = .returned (.bool true) ∧ Below w.heap.size w w' :=
  rtells_core q t up _ _ _ (Lib.hid fun W => up_any q t hq ht W) (Lib.hid fun W => down_any q t hq ht W) (Lib.hid fun W => part_any q t up hq ht W)
    (Lib.hid fun W => told_any q 1048576 t true hq ⟨by decide, by decide⟩ ht W) (Lib.hid fun W => told_any q 1048576 t false hq ⟨by decide, by decide⟩ ht W) (Lib.hid fun W => told_any q t 1048576 up hq ht ⟨by decide, by decide⟩ W) awC w
end Go.Proofs.Ythindhclcdbnfaa
