/-
  The walks of num.Time and num.After: what each answers, for every int; the world is as it was.
-/
import Derived.Test.YtbkdfbddcfglgaaRRRProg
import Derived.WalkKit
import Derived.WalkSpells
import Derived.WalkLawsBesides
import Derived.Lib.Hide
namespace Go.Proofs.YtbkdfbddcfglgaaRRR
open Go.RowKit

/-- What num.Time answers. -/
def timeE (t : Int) : Int := if t < 0 then 10 else if 1099511627776 ≤ t then 21 else 0
theorem timeE_neg {t : Int} (h : t < 0) : timeE t = 10 := if_pos h
theorem timeE_far {t : Int} (h : 1099511627776 ≤ t) : timeE t = 21 := by
  unfold timeE; rw [if_neg (by omega), if_pos h]
theorem timeE_ok {t : Int} (h0 : 0 ≤ t) (h : t < 1099511627776) : timeE t = 0 := by
  unfold timeE; rw [if_neg (by omega), if_neg (by omega)]

set_option maxHeartbeats 400000 in
theorem time_any (t : Int) (w : World) :
    Calls Try.prog 27 #[.int .i64 t] w fun e w' => e = .returned (.int .i64 (timeE t)) ∧ w = w' := by
  by_cases h : t < 0
  · rw [timeE_neg h]
    go_enter Try.func27, Try.ntmps27
    go_wp2
    go_ret
    exact ⟨rfl, rfl⟩
  by_cases h1 : 1099511627776 ≤ t
  · rw [timeE_far h1]
    go_enter Try.func27, Try.ntmps27
    go_wp2
    go_ret
    exact ⟨rfl, rfl⟩
  · rw [timeE_ok (by omega) (by omega)]
    go_enter Try.func27, Try.ntmps27
    go_wp2
    go_ret
    exact ⟨rfl, rfl⟩

/-- What num.After answers: the time, and the error. -/
def afterE (t b : Int) : Int := if timeE t = 0 then (if b < 0 then 10 else if 1099511627776 - t ≤ b then 21 else 0) else timeE t
def afterN (t b : Int) : Int := if afterE t b = 0 then t + b else 0

theorem timeE_ne {t : Int} (h : t < 0 ∨ 1099511627776 ≤ t) : timeE t ≠ 0 := by
  rcases h with h | h
  · rw [timeE_neg h]; decide
  · rw [timeE_far h]; decide

set_option maxHeartbeats 400000 in
theorem after_bad (t b : Int) (w : World) (h : t < 0 ∨ 1099511627776 ≤ t) :
    Calls Try.prog 28 #[.int .i64 t, .int .i64 b] w fun e w' => e = .returned (.tuple #[.int .i64 0, .int .i64 (timeE t)]) ∧ w = w' := by
  have e0 := timeE_ne h
  have c := time_any t w
  have hb : (timeE t != 0) = true := by simp [e0]
  have C := Lib.hid c
  clear c e0 h
  generalize timeE t = x at *
  go_enter Try.func28, Try.ntmps28
  go_wp2_with (go_at_call 27; refine C.out.mono ?_; rintro e w' ⟨rfl, rfl⟩)
  go_ret2
  exact ⟨rfl, rfl⟩

set_option maxHeartbeats 400000 in
theorem after_ok (t b : Int) (w : World) (h0 : 0 ≤ t) (h1 : t < 1099511627776) (hb : 0 ≤ b) (hs : b < 1099511627776 - t) :
    Calls Try.prog 28 #[.int .i64 t, .int .i64 b] w fun e w' => e = .returned (.tuple #[.int .i64 (t + b), .int .i64 0]) ∧ w = w' := by
  have c := time_any t w
  rw [timeE_ok h0 h1] at c
  have C := Lib.hid c
  clear c
  go_enter Try.func28, Try.ntmps28
  go_wp2_with (go_at_call 27; refine C.out.mono ?_; rintro e w' ⟨rfl, rfl⟩)
  go_ret2
  exact ⟨rfl, rfl⟩

set_option maxHeartbeats 400000 in
theorem after_neg (t b : Int) (w : World) (h0 : 0 ≤ t) (h1 : t < 1099511627776) (hb : b < 0) :
    Calls Try.prog 28 #[.int .i64 t, .int .i64 b] w fun e w' => e = .returned (.tuple #[.int .i64 0, .int .i64 10]) ∧ w = w' := by
  have c := time_any t w
  rw [timeE_ok h0 h1] at c
  have C := Lib.hid c
  clear c
  go_enter Try.func28, Try.ntmps28
  go_wp2_with (go_at_call 27; refine C.out.mono ?_; rintro e w' ⟨rfl, rfl⟩)
  go_ret2
  exact ⟨rfl, rfl⟩

set_option maxHeartbeats 400000 in
theorem after_far (t b : Int) (w : World) (h0 : 0 ≤ t) (h1 : t < 1099511627776) (hb : 0 ≤ b) (hs : 1099511627776 - t ≤ b) :
    Calls Try.prog 28 #[.int .i64 t, .int .i64 b] w fun e w' => e = .returned (.tuple #[.int .i64 0, .int .i64 21]) ∧ w = w' := by
  have c := time_any t w
  rw [timeE_ok h0 h1] at c
  have C := Lib.hid c
  clear c
  go_enter Try.func28, Try.ntmps28
  go_wp2_with (go_at_call 27; refine C.out.mono ?_; rintro e w' ⟨rfl, rfl⟩)
  go_ret2
  exact ⟨rfl, rfl⟩

/-- num.After, for every two ints. -/
theorem after_any (t b : Int) (w : World) :
    Calls Try.prog 28 #[.int .i64 t, .int .i64 b] w fun e w' => e = .returned (.tuple #[.int .i64 (afterN t b), .int .i64 (afterE t b)]) ∧ w = w' := by
  by_cases h : t < 0 ∨ 1099511627776 ≤ t
  · have e0 := timeE_ne h
    have e1 : afterE t b = timeE t := if_neg e0
    have e2 : afterN t b = 0 := if_neg (by rw [e1]; exact e0)
    rw [e2, e1]
    exact after_bad t b w h
  have h0 : 0 ≤ t := by omega
  have h1 : t < 1099511627776 := by omega
  have e0 := timeE_ok h0 h1
  by_cases hb : b < 0
  · have e1 : afterE t b = 10 := by unfold afterE; rw [if_pos e0, if_pos hb]
    have e2 : afterN t b = 0 := if_neg (by rw [e1]; decide)
    rw [e2, e1]
    exact after_neg t b w h0 h1 hb
  by_cases hs : 1099511627776 - t ≤ b
  · have e1 : afterE t b = 21 := by unfold afterE; rw [if_pos e0, if_neg hb, if_pos hs]
    have e2 : afterN t b = 0 := if_neg (by rw [e1]; decide)
    rw [e2, e1]
    exact after_far t b w h0 h1 (by omega) hs
  · have e1 : afterE t b = 0 := by unfold afterE; rw [if_pos e0, if_neg hb, if_neg hs]
    have e2 : afterN t b = t + b := if_pos e1
    rw [e2, e1]
    exact after_ok t b w h0 h1 (by omega) (by omega)

end Go.Proofs.YtbkdfbddcfglgaaRRR
