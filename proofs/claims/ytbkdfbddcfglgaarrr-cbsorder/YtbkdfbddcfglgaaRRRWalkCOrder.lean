/-
  CbsOrder: the arithmetic round its walk.
-/
import Derived.Test.YtbkdfbddcfglgaaRRRLawCOrder
namespace Go.Proofs.YtbkdfbddcfglgaaRRR
open Go.RowKit
set_option linter.unusedVariables false

theorem walk_CbsOrder (now q d t l e n : Int) (w : World) (hnow : -9223372036854775808 ≤ now ∧ now ≤ 9223372036854775807) (hq : -9223372036854775808 ≤ q ∧ q ≤ 9223372036854775807) (hd : -9223372036854775808 ≤ d ∧ d ≤ 9223372036854775807) (ht : -9223372036854775808 ≤ t ∧ t ≤ 9223372036854775807) (hl : -9223372036854775808 ≤ l ∧ l ≤ 9223372036854775807) (he : -9223372036854775808 ≤ e ∧ e ≤ 9223372036854775807) (hn : -9223372036854775808 ≤ n ∧ n ≤ 9223372036854775807) :
    Calls Try.prog 6 #[.int .i64 now, .agg #[.int .i64 q, .int .i64 d, .int .i64 t], .agg #[.int .i64 l, .int .i64 e, .int .i64 n]] w fun E w' => E = .returned (.bool true) ∧ Below w.heap.size w w' := by
  clear hnow hq hd ht hl he hn
  by_cases hO' : allE now q d t l e n ≠ 0
  · exact corder_out now q d t l e n hO' awC6 w
  have hO : allE now q d t l e n = 0 := Decidable.not_not.1 hO'
  clear hO'
  have ok := allE_may hO
  obtain ⟨q0, qd, dt, t1, n0, n1, l0, l1, e0, e1, x0, x1⟩ := allE_may hO
  by_cases hT : timeE (now + t) ≠ 0
  · exact corder_far now q d t l e n hO n0 n1 (by omega) t1 hT awC6 w
  · exact corder_core now q d t l e n hO n0 n1 (by omega) t1 (Lib.hid ok) q0 (by omega) l0 l1 (Decidable.not_not.1 hT) (may_yes (checkE_of q0 qd dt t1)) awC6 w
end Go.Proofs.YtbkdfbddcfglgaaRRR
