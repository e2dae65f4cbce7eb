/-
  timers.Queue: fire: what it keeps in memory, round by round.
-/
import Derived.Test.YtcipilggddpnpaaTc
import Derived.Test.YtcipilggddpnpaaQl
namespace Go.Proofs.Ytcipilggddpnpaa
open Go.RowKit Go.Shelf Go.Maps
set_option linter.unusedVariables false
set_option linter.unusedSimpArgs false

/-- The cells of timers that came to be due. -/
def flatF (now : Int) : List Ent → List Value
  | [] => []
  | x :: r => .int .i64 x.1 :: .int .i64 x.2 :: .int .i64 (now - x.2) :: flatF now r
theorem flatF_append (now : Int) : ∀ (a b : List Ent), flatF now (a ++ b) = flatF now a ++ flatF now b
  | [], _ => rfl
  | x :: a, b => by rw [List.cons_append, flatF, flatF, flatF_append now a b]; rfl
theorem len_flatF (now : Int) : ∀ R : List Ent, (flatF now R).length = R.length * 3
  | [] => rfl
  | x :: r => by rw [flatF, List.length_cons, List.length_cons, List.length_cons, len_flatF now r, List.length_cons]; omega
end Go.Proofs.Ytcipilggddpnpaa
