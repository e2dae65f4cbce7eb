/-
  The walks of package ratio but for its sums: Up, Down, Part, Check, Use, Dense.
-/
import Derived.Test.YthncchngphlcfaaDivA
namespace Go.Proofs.Ythncchngphlcfaa
open Go.RowKit
set_option linter.unusedVariables false

/-- ratio.Part, for every two ints and both ways of rounding. -/
theorem part_any (r t : Int) (up : Bool) (hr : Is64 r) (ht : Is64 t) (w : World) :
    Calls Try.prog 20 #[.int .i64 r, .int .i64 t, .bool up] w fun e w' => e = .returned (.tuple #[.int .i64 (divR r t 1048576 up).1, .int .i64 (divR r t 1048576 up).2]) ∧ Below w.heap.size w w' := by
  have c := Lib.hid (fun W => div_any r t 1048576 up hr ht ⟨by decide, by decide⟩ W)
  generalize divR r t 1048576 up = x at *
  go_enter Try.func20, Try.ntmps20
  go_wp2_with fail
  refine (c.out _).mono ?_
  rintro e w1 ⟨rfl, hb1⟩
  go_wp2
  go_ret2
  exact ⟨rfl, hb1⟩

/-- What ratio.Check answers. -/
def checkE (q d t : Int) : Int := if q < 1 ∨ d < q ∨ t < d ∨ 1073741824 < t then 1 else 0

/-- What Use and Dense answer. -/
def useR (x q d t : Int) : Int × Int := if checkE q d t = 0 then divR q 1048576 x true else (0, 1)

theorem aw_up : divR 1 1048576 3 true = (349526, 0) := by decide
theorem aw_down : divR 1 1048576 3 false = (349525, 0) := by decide
theorem aw_part : divR 524288 7 1048576 false = (3, 0) := by decide
theorem aw_use : useR 100 10 50 100 = (104858, 0) := by decide

end Go.Proofs.Ythncchngphlcfaa
