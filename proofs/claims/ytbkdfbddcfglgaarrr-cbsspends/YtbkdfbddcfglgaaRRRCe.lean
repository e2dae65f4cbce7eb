/-
  The document's answer for layer 6: Time, Check, Wrong, Plain, Fresh, Refill, Lag; and the law's awake.
-/
import Derived.Test.YtbkdfbddcfglgaaRRRCd
import Derived.Test.YtbkdfbddcfglgaaRRRLy
namespace Go.Proofs.YtbkdfbddcfglgaaRRR
open Go.RowKit
set_option linter.unusedVariables false
set_option linter.unusedSimpArgs false

theorem time4_any (t : Int) (w : World) :
    Calls Try.prog 17 #[.int .i64 t] w fun e w' => e = .returned (.int .i64 (timeE t)) ∧ w = w' := by
  by_cases h : t < 0
  · rw [timeE_neg h]
    go_enter Try.func17, Try.ntmps17
    go_wp2
    go_ret
    exact ⟨rfl, rfl⟩
  by_cases h1 : 1099511627776 ≤ t
  · rw [timeE_far h1]
    go_enter Try.func17, Try.ntmps17
    go_wp2
    go_ret
    exact ⟨rfl, rfl⟩
  · rw [timeE_ok (by omega) (by omega)]
    go_enter Try.func17, Try.ntmps17
    go_wp2
    go_ret
    exact ⟨rfl, rfl⟩

theorem plain_any (l e n : Int) (w : World) :
    Calls Try.prog 9 #[.agg #[.int .i64 l, .int .i64 e, .int .i64 n]] w fun E w' => E = .returned (.agg #[.int .i64 l, .int .i64 e, .int .i64 n]) ∧ Below w.heap.size w w' := by
  go_enter Try.func9, Try.ntmps9
  go_wp2
  exact bodyPost_ret (v := .agg #[.int .i64 l, .int .i64 e, .int .i64 n]) (by simp [results, Try.results9, go_sem]) rfl ⟨rfl, (Two3.start w 25 30 l e n l e n).1⟩

theorem rcheck_any (l e n : Int) (w : World) :
    Calls Try.prog 8 #[.agg #[.int .i64 l, .int .i64 e, .int .i64 n]] w fun E w' => E = .returned (.int .i64 (numE l e n)) ∧ Below w.heap.size w w' := by
  have B := fun o => (Below.refl w.heap.size w).alloc (Nat.le_refl _) o
  have cN := Lib.hid (fun W => time4_any n W)
  have cE := fun W => time4_any e W
  by_cases h1 : l < -1073741824
  · have x : numE l e n = 10 := if_pos (.inl h1)
    rw [x]
    have h1' : decide (l < -1073741824) = true := by simpa using h1
    clear x cN cE
    go_enter Try.func8, Try.ntmps8
    go_wp2
    go_ret
    exact ⟨rfl, B _⟩
  have h1' : decide (l < -1073741824) = false := by simpa using h1
  by_cases h2 : 1073741824 < l
  · have x : numE l e n = 10 := if_pos (.inr h2)
    rw [x]
    have h2' : decide (1073741824 < l) = true := by simpa using h2
    clear x cN cE
    go_enter Try.func8, Try.ntmps8
    go_wp2
    go_ret
    exact ⟨rfl, B _⟩
  have h2' : decide (1073741824 < l) = false := by simpa using h2
  by_cases h3 : timeE e = 0
  · have x : numE l e n = timeE n := by unfold numE; rw [if_neg (by omega), if_pos h3]
    rw [x]
    rw [h3] at cE
    have CE := Lib.hid cE
    clear x cE h3 h1 h2
    generalize timeE n = y at *
    go_enter Try.func8, Try.ntmps8
    go_wp2_with fail
    refine (CE.out _).mono ?_
    rintro E w1 ⟨rfl, rfl⟩
    go_wp2_with fail
    refine (cN.out _).mono ?_
    rintro E w1 ⟨rfl, rfl⟩
    go_wp2
    go_ret
    exact ⟨rfl, B _⟩
  · have x : numE l e n = timeE e := by unfold numE; rw [if_neg (by omega), if_neg h3]
    have h3' : (timeE e == 0) = false := by simpa using h3
    rw [x]
    have CE := Lib.hid cE
    clear x cE h3 h1 h2
    generalize timeE e = y at *
    go_enter Try.func8, Try.ntmps8
    go_wp2_with fail
    refine (CE.out _).mono ?_
    rintro E w1 ⟨rfl, rfl⟩
    go_wp2
    go_ret
    exact ⟨rfl, B _⟩

/-- metronomeref02.May, for every params. -/
theorem may6_any (q d t : Int) (w : World) :
    Calls Try.prog 16 #[.agg #[.int .i64 q, .int .i64 d, .int .i64 t]] w fun e w' => e = .returned (.bool (checkE q d t == 0)) ∧ Below w.heap.size w w' := by
  have B := fun o => (Below.refl w.heap.size w).alloc (Nat.le_refl _) o
  by_cases h1 : q < 1
  · have e : checkE q d t = 1 := if_pos (by omega)
    rw [e]
    have h1' : decide (1 ≤ q) = false := by simp; omega
    clear e
    go_enter Try.func16, Try.ntmps16
    go_wp2
    go_ret
    exact ⟨rfl, B _⟩
  have h1' : decide (1 ≤ q) = true := by simp; omega
  by_cases h2 : d < q
  · have e : checkE q d t = 1 := if_pos (by omega)
    rw [e]
    have h2' : decide (q ≤ d) = false := by simp; omega
    clear e
    go_enter Try.func16, Try.ntmps16
    go_wp2
    go_ret
    exact ⟨rfl, B _⟩
  have h2' : decide (q ≤ d) = true := by simp; omega
  by_cases h3 : t < d
  · have e : checkE q d t = 1 := if_pos (by omega)
    rw [e]
    have h3' : decide (d ≤ t) = false := by simp; omega
    clear e
    go_enter Try.func16, Try.ntmps16
    go_wp2
    go_ret
    exact ⟨rfl, B _⟩
  have h3' : decide (d ≤ t) = true := by simp; omega
  by_cases h4 : 1073741824 < t
  · have e : checkE q d t = 1 := if_pos (by omega)
    rw [e]
    have h4' : decide (t ≤ 1073741824) = false := by simp; omega
    clear e
    go_enter Try.func16, Try.ntmps16
    go_wp2
    go_ret
    exact ⟨rfl, B _⟩
  · have e : checkE q d t = 0 := if_neg (by omega)
    rw [e]
    have h4' : decide (t ≤ 1073741824) = true := by simp; omega
    clear e
    go_enter Try.func16, Try.ntmps16
    go_wp2
    go_ret
    exact ⟨rfl, B _⟩

theorem rwrong_any (now q d t l e n : Int) (w : World) :
    Calls Try.prog 10 #[.int .i64 now, .agg #[.int .i64 q, .int .i64 d, .int .i64 t], .agg #[.int .i64 l, .int .i64 e, .int .i64 n]] w fun E w' => E = .returned (.int .i64 (allE now q d t l e n)) ∧ Below w.heap.size w w' := by
  have S0 := Lib.hid (Two3.start w 23 30 q d t l e n)
  have c1 := fun W => may6_any q d t W
  have c2 := fun W => time4_any now W
  have c3 := Lib.hid (fun W => rcheck_any l e n W)
  by_cases h1 : checkE q d t = 0
  · rw [h1] at c1
    have C1 := Lib.hid c1
    by_cases h2 : timeE now = 0
    · have x : allE now q d t l e n = numE l e n := by unfold allE; rw [if_pos h1, if_pos h2]
      rw [x]
      rw [h2] at c2
      have C2 := Lib.hid c2
      clear x c1 c2 h1 h2
      generalize numE l e n = y at *
      go_enter Try.func10, Try.ntmps10
      go_wp2_with fail
      refine (C1.out _).mono ?_
      rintro E w1 ⟨rfl, b1⟩
      have S1 := Lib.hid (S0.out.next b1)
      obtain ⟨p0, p1, p2⟩ := S1.out.2.2.cells
      go_wp2_with fail
      refine (C2.out _).mono ?_
      rintro E w2 ⟨rfl, rfl⟩
      go_wp2_with fail
      refine (c3.out _).mono ?_
      rintro E w3 ⟨rfl, b3⟩
      go_wp2
      go_ret
      exact ⟨rfl, (S1.out.next b3).1⟩
    · have x : allE now q d t l e n = timeE now := by unfold allE; rw [if_pos h1, if_neg h2]
      have h2' : (timeE now == 0) = false := by simpa using h2
      rw [x]
      have C2 := Lib.hid c2
      clear x c1 c2 h1 h2
      generalize timeE now = y at *
      go_enter Try.func10, Try.ntmps10
      go_wp2_with fail
      refine (C1.out _).mono ?_
      rintro E w1 ⟨rfl, b1⟩
      have S1 := Lib.hid (S0.out.next b1)
      go_wp2_with fail
      refine (C2.out _).mono ?_
      rintro E w2 ⟨rfl, rfl⟩
      go_wp2
      go_ret
      exact ⟨rfl, S1.out.1⟩
  · have x : allE now q d t l e n = 1 := by unfold allE; rw [if_neg h1]
    rw [checkE_ne h1] at c1
    rw [x]
    have C1 := Lib.hid c1
    clear x c1 c2 h1
    go_enter Try.func10, Try.ntmps10
    go_wp2_with fail
    refine (C1.out _).mono ?_
    rintro E w1 ⟨rfl, b1⟩
    have S1 := Lib.hid (S0.out.next b1)
    go_wp2
    go_ret
    exact ⟨rfl, S1.out.1⟩
end Go.Proofs.YtbkdfbddcfglgaaRRR
