/-
  The walks of num.Time and num.After: what each answers, for every int; the world is as it was.
-/
import Derived.Test.YtcipilggddpnpaaProg
import Derived.WalkKit
import Derived.WalkSpells
import Derived.WalkLawsBesides
import Derived.Lib.Hide
namespace Go.Proofs.Ytcipilggddpnpaa
open Go.RowKit

/-- What num.Time answers. -/
def timeE (t : Int) : Int := if t < 0 then 10 else if 1099511627776 ≤ t then 21 else 0
theorem timeE_neg {t : Int} (h : t < 0) : timeE t = 10 := if_pos h
theorem timeE_far {t : Int} (h : 1099511627776 ≤ t) : timeE t = 21 := by
  unfold timeE; rw [if_neg (by omega), if_pos h]
theorem timeE_ok {t : Int} (h0 : 0 ≤ t) (h : t < 1099511627776) : timeE t = 0 := by
  unfold timeE; rw [if_neg (by omega), if_neg (by omega)]

set_option maxHeartbeats 400000 in
theorem time_any (t : Int) (w : World) :
    Calls Try.prog 58 #[.int .i64 t] w fun e w' => e = .returned (.int .i64 (timeE t)) ∧ w = w' := by
  by_cases h : t < 0
  · rw [timeE_neg h]
    go_enter Try.func58, Try.ntmps58
    go_wp2
    go_ret
    exact ⟨rfl, rfl⟩
  by_cases h1 : 1099511627776 ≤ t
  · rw [timeE_far h1]
    go_enter Try.func58, Try.ntmps58
    go_wp2
    go_ret
    exact ⟨rfl, rfl⟩
  · rw [timeE_ok (by omega) (by omega)]
    go_enter Try.func58, Try.ntmps58
    go_wp2
    go_ret
    exact ⟨rfl, rfl⟩

/-- What num.After answers: the time, and the error. -/
def afterE (t b : Int) : Int := if timeE t = 0 then (if b < 0 then 10 else if 1099511627776 - t ≤ b then 21 else 0) else timeE t
def afterN (t b : Int) : Int := if afterE t b = 0 then t + b else 0

theorem timeE_ne {t : Int} (h : t < 0 ∨ 1099511627776 ≤ t) : timeE t ≠ 0 := by
  rcases h with h | h
  · rw [timeE_neg h]; decide
  · rw [timeE_far h]; decide

end Go.Proofs.Ytcipilggddpnpaa
