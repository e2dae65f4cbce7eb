/-
  The walks of package ratio but for its sums: Up, Down, Part, Check, Use, Dense.
-/
import Derived.Test.YtbkdfbddcfglgaaRRRDivA
namespace Go.Proofs.YtbkdfbddcfglgaaRRR
open Go.RowKit
set_option linter.unusedVariables false

/-- What ratio.Check answers. -/
def checkE (q d t : Int) : Int := if q < 1 ∨ d < q ∨ t < d ∨ 1073741824 < t then 1 else 0

/-- ratio.Check, for every params. -/
theorem check_any (q d t : Int) (w : World) :
    Calls Try.prog 24 #[.agg #[.int .i64 q, .int .i64 d, .int .i64 t]] w fun e w' => e = .returned (.int .i64 (checkE q d t)) ∧ Below w.heap.size w w' := by
  have B := fun o => (Below.refl w.heap.size w).alloc (Nat.le_refl _) o
  by_cases h1 : q < 1
  · have e : checkE q d t = 1 := if_pos (by omega)
    rw [e]
    have h1' : decide (q < 1) = true := by simpa using h1
    go_enter Try.func24, Try.ntmps24
    go_wp2
    go_ret
    exact ⟨rfl, B _⟩
  have h1' : decide (q < 1) = false := by simpa using h1
  by_cases h2 : d < q
  · have e : checkE q d t = 1 := if_pos (by omega)
    rw [e]
    have h2' : decide (d < q) = true := by simpa using h2
    go_enter Try.func24, Try.ntmps24
    go_wp2
    go_ret
    exact ⟨rfl, B _⟩
  have h2' : decide (d < q) = false := by simpa using h2
  by_cases h3 : t < d
  · have e : checkE q d t = 1 := if_pos (by omega)
    rw [e]
    have h3' : decide (t < d) = true := by simpa using h3
    go_enter Try.func24, Try.ntmps24
    go_wp2
    go_ret
    exact ⟨rfl, B _⟩
  have h3' : decide (t < d) = false := by simpa using h3
  by_cases h4 : 1073741824 < t
  · have e : checkE q d t = 1 := if_pos (by omega)
    rw [e]
    have h4' : decide (1073741824 < t) = true := by simpa using h4
    go_enter Try.func24, Try.ntmps24
    go_wp2
    go_ret
    exact ⟨rfl, B _⟩
  · have e : checkE q d t = 0 := if_neg (by omega)
    rw [e]
    have h4' : decide (1073741824 < t) = false := by simpa using h4
    go_enter Try.func24, Try.ntmps24
    go_wp2
    go_ret
    exact ⟨rfl, B _⟩

/-- What Use and Dense answer. -/
def useR (x q d t : Int) : Int × Int := if checkE q d t = 0 then divR q 1048576 x true else (0, 1)

theorem aw_up : divR 1 1048576 3 true = (349526, 0) := by decide
theorem aw_down : divR 1 1048576 3 false = (349525, 0) := by decide
theorem aw_part : divR 524288 7 1048576 false = (3, 0) := by decide
theorem aw_use : useR 100 10 50 100 = (104858, 0) := by decide

end Go.Proofs.YtbkdfbddcfglgaaRRR
