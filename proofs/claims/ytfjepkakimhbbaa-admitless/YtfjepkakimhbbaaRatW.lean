/-
  The walks of package ratio but for its sums: Up, Down, Part, Check, Use, Dense.
-/
import Derived.Test.YtfjepkakimhbbaaDivA
namespace Go.Proofs.Ytfjepkakimhbbaa
open Go.RowKit
set_option linter.unusedVariables false

/-- ratio.Up, for every two ints. -/
theorem up_any (q t : Int) (hq : Is64 q) (ht : Is64 t) (w : World) :
    Calls Try.prog 43 #[.int .i64 q, .int .i64 t] w fun e w' => e = .returned (.tuple #[.int .i64 (divR q 1048576 t true).1, .int .i64 (divR q 1048576 t true).2]) ∧ Below w.heap.size w w' := by
  have c := Lib.hid (fun W => div_any q 1048576 t true hq ⟨by decide, by decide⟩ ht W)
  generalize divR q 1048576 t true = r at *
  go_enter Try.func43, Try.ntmps43
  go_wp2_with fail
  refine (c.out _).mono ?_
  rintro e w1 ⟨rfl, hb1⟩
  go_wp2
  go_ret2
  exact ⟨rfl, hb1⟩

/-- What ratio.Check answers. -/
def checkE (q d t : Int) : Int := if q < 1 ∨ d < q ∨ t < d ∨ 1073741824 < t then 1 else 0

/-- ratio.Check, for every params. -/
theorem check_any (q d t : Int) (w : World) :
    Calls Try.prog 42 #[.agg #[.int .i64 q, .int .i64 d, .int .i64 t]] w fun e w' => e = .returned (.int .i64 (checkE q d t)) ∧ Below w.heap.size w w' := by
  have B := fun o => (Below.refl w.heap.size w).alloc (Nat.le_refl _) o
  by_cases h1 : q < 1
  · have e : checkE q d t = 1 := if_pos (by omega)
    rw [e]
    have h1' : decide (q < 1) = true := by simpa using h1
    go_enter Try.func42, Try.ntmps42
    go_wp2
    go_ret
    exact ⟨rfl, B _⟩
  have h1' : decide (q < 1) = false := by simpa using h1
  by_cases h2 : d < q
  · have e : checkE q d t = 1 := if_pos (by omega)
    rw [e]
    have h2' : decide (d < q) = true := by simpa using h2
    go_enter Try.func42, Try.ntmps42
    go_wp2
    go_ret
    exact ⟨rfl, B _⟩
  have h2' : decide (d < q) = false := by simpa using h2
  by_cases h3 : t < d
  · have e : checkE q d t = 1 := if_pos (by omega)
    rw [e]
    have h3' : decide (t < d) = true := by simpa using h3
    go_enter Try.func42, Try.ntmps42
    go_wp2
    go_ret
    exact ⟨rfl, B _⟩
  have h3' : decide (t < d) = false := by simpa using h3
  by_cases h4 : 1073741824 < t
  · have e : checkE q d t = 1 := if_pos (by omega)
    rw [e]
    have h4' : decide (1073741824 < t) = true := by simpa using h4
    go_enter Try.func42, Try.ntmps42
    go_wp2
    go_ret
    exact ⟨rfl, B _⟩
  · have e : checkE q d t = 0 := if_neg (by omega)
    rw [e]
    have h4' : decide (1073741824 < t) = false := by simpa using h4
    go_enter Try.func42, Try.ntmps42
    go_wp2
    go_ret
    exact ⟨rfl, B _⟩

/-- What Use and Dense answer. -/
def useR (x q d t : Int) : Int × Int := if checkE q d t = 0 then divR q 1048576 x true else (0, 1)

theorem budget_any (x q d t : Int) (hx : Is64 x) (hq : Is64 q) (w : World) :
    Calls Try.prog 41 #[.int .i64 x, .agg #[.int .i64 q, .int .i64 d, .int .i64 t]] w fun e w' => e = .returned (.tuple #[.int .i64 (useR x q d t).1, .int .i64 (useR x q d t).2]) ∧ Below w.heap.size w w' := by
  have c1 := fun W => check_any q d t W
  have c2 := Lib.hid (fun W => up_any q x hq hx W)
  by_cases h : checkE q d t = 0
  · have e : useR x q d t = divR q 1048576 x true := if_pos h
    rw [e]
    rw [h] at c1
    have C1 := Lib.hid c1
    clear c1 h e
    generalize divR q 1048576 x true = r at *
    go_enter Try.func41, Try.ntmps41
    go_wp2_with fail
    refine (C1.out _).mono ?_
    rintro e w1 ⟨rfl, b1⟩
    have H1 := Lib.hid ((Arr3.start w q d t 40).next b1)
    obtain ⟨_, _, p0, p1, p2⟩ := H1.out
    go_wp2_with fail
    refine (c2.out _).mono ?_
    rintro e w2 ⟨rfl, b2⟩
    go_wp2
    go_ret2
    exact ⟨rfl, H1.out.done b2⟩
  · have e : useR x q d t = (0, 1) := if_neg h
    have h1 : checkE q d t = 1 := by unfold checkE at h ⊢; split <;> simp_all
    rw [e]
    rw [h1] at c1
    have C1 := Lib.hid c1
    clear c1 h e h1
    go_enter Try.func41, Try.ntmps41
    go_wp2_with fail
    refine (C1.out _).mono ?_
    rintro e w1 ⟨rfl, b1⟩
    have H1 := Lib.hid ((Arr3.start w q d t 40).next b1)
    go_wp2
    go_ret2
    exact ⟨rfl, H1.out.2.1⟩

theorem use_any (q d t : Int) (hq : Is64 q) (ht : Is64 t) (w : World) :
    Calls Try.prog 40 #[.agg #[.int .i64 q, .int .i64 d, .int .i64 t]] w fun e w' => e = .returned (.tuple #[.int .i64 (useR t q d t).1, .int .i64 (useR t q d t).2]) ∧ Below w.heap.size w w' := by
  have c := Lib.hid (fun W => budget_any t q d t ht hq W)
  generalize useR t q d t = r at *
  go_enter Try.func40, Try.ntmps40
  go_wp2_with fail
  refine (c.out _).mono ?_
  rintro e w1 ⟨rfl, b1⟩
  go_wp2
  go_ret2
  exact ⟨rfl, below_alloc b1⟩

theorem dense_any (q d t : Int) (hq : Is64 q) (hd : Is64 d) (w : World) :
    Calls Try.prog 39 #[.agg #[.int .i64 q, .int .i64 d, .int .i64 t]] w fun e w' => e = .returned (.tuple #[.int .i64 (useR d q d t).1, .int .i64 (useR d q d t).2]) ∧ Below w.heap.size w w' := by
  have c := Lib.hid (fun W => budget_any d q d t hd hq W)
  generalize useR d q d t = r at *
  go_enter Try.func39, Try.ntmps39
  go_wp2_with fail
  refine (c.out _).mono ?_
  rintro e w1 ⟨rfl, b1⟩
  go_wp2
  go_ret2
  exact ⟨rfl, below_alloc b1⟩

theorem aw_up : divR 1 1048576 3 true = (349526, 0) := by decide
theorem aw_down : divR 1 1048576 3 false = (349525, 0) := by decide
theorem aw_part : divR 524288 7 1048576 false = (3, 0) := by decide
theorem aw_use : useR 100 10 50 100 = (104858, 0) := by decide

end Go.Proofs.Ytfjepkakimhbbaa
