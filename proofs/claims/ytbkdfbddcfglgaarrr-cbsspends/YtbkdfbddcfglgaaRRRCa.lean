/-
  The walks of cbs.Check and cbs.checkAll: what each answers, for every params, time and numbers.
-/
import Derived.Test.YtbkdfbddcfglgaaRRRRatC
import Derived.Test.YtbkdfbddcfglgaaRRRTime
namespace Go.Proofs.YtbkdfbddcfglgaaRRR
open Go.RowKit
set_option linter.unusedVariables false

/-- What cbs.Check answers. -/
def numE (l e n : Int) : Int := if l < -1073741824 ∨ 1073741824 < l then 10 else if timeE e = 0 then timeE n else timeE e

theorem ccheck_any (l e n : Int) (w : World) :
    Calls Try.prog 19 #[.agg #[.int .i64 l, .int .i64 e, .int .i64 n]] w fun E w' => E = .returned (.int .i64 (numE l e n)) ∧ Below w.heap.size w w' := by
  have B := fun o => (Below.refl w.heap.size w).alloc (Nat.le_refl _) o
  have cN := Lib.hid (fun W => time_any n W)
  have cE := fun W => time_any e W
  by_cases h1 : l < -1073741824
  · have x : numE l e n = 10 := if_pos (.inl h1)
    rw [x]
    have h1' : decide (l < -1073741824) = true := by simpa using h1
    clear x cN cE
    go_enter Try.func19, Try.ntmps19
    go_wp2
    go_ret
    exact ⟨rfl, B _⟩
  have h1' : decide (l < -1073741824) = false := by simpa using h1
  by_cases h2 : 1073741824 < l
  · have x : numE l e n = 10 := if_pos (.inr h2)
    rw [x]
    have h2' : decide (1073741824 < l) = true := by simpa using h2
    clear x cN cE
    go_enter Try.func19, Try.ntmps19
    go_wp2
    go_ret
    exact ⟨rfl, B _⟩
  have h2' : decide (1073741824 < l) = false := by simpa using h2
  by_cases h3 : timeE e = 0
  · have x : numE l e n = timeE n := by unfold numE; rw [if_neg (by omega), if_pos h3]
    rw [x]
    rw [h3] at cE
    have CE := Lib.hid cE
    clear x cE h3 h1 h2
    generalize timeE n = y at *
    go_enter Try.func19, Try.ntmps19
    go_wp2_with fail
    refine (CE.out _).mono ?_
    rintro E w1 ⟨rfl, rfl⟩
    go_wp2_with fail
    refine (cN.out _).mono ?_
    rintro E w1 ⟨rfl, rfl⟩
    go_wp2
    go_ret
    exact ⟨rfl, B _⟩
  · have x : numE l e n = timeE e := by unfold numE; rw [if_neg (by omega), if_neg h3]
    have h3' : (timeE e != 0) = true := by simpa using h3
    rw [x]
    have CE := Lib.hid cE
    clear x cE h3 h1 h2
    generalize timeE e = y at *
    go_enter Try.func19, Try.ntmps19
    go_wp2_with fail
    refine (CE.out _).mono ?_
    rintro E w1 ⟨rfl, rfl⟩
    go_wp2
    go_ret
    exact ⟨rfl, B _⟩

/-- Params and numbers in two blocks, while callees make blocks behind them. -/
def PN (w W : World) (q d t l e n : Int) : Prop :=
  w.heap.size + 1 < W.heap.size ∧ Below w.heap.size w W ∧ (W.cell? ⟨w.heap.size, 0, none⟩ = some (.int .i64 q) ∧ W.cell? ⟨w.heap.size, 1, none⟩ = some (.int .i64 d) ∧ W.cell? ⟨w.heap.size, 2, none⟩ = some (.int .i64 t)) ∧
    (W.cell? ⟨w.heap.size + 1, 0, none⟩ = some (.int .i64 l) ∧ W.cell? ⟨w.heap.size + 1, 1, none⟩ = some (.int .i64 e) ∧ W.cell? ⟨w.heap.size + 1, 2, none⟩ = some (.int .i64 n))
theorem PN.next {w W W' : World} {q d t l e n : Int} (h : PN w W q d t l e n) (hb : Below W.heap.size W W') : PN w W' q d t l e n := by
  obtain ⟨hz, hB, ⟨p0, p1, p2⟩, p3, p4, p5⟩ := h
  have hk : ∀ o, W'.cell? ⟨w.heap.size, o, none⟩ = W.cell? ⟨w.heap.size, o, none⟩ := fun o => hb.cell (p := ⟨w.heap.size, o, none⟩) (by show w.heap.size < _; omega)
  have hm : ∀ o, W'.cell? ⟨w.heap.size + 1, o, none⟩ = W.cell? ⟨w.heap.size + 1, o, none⟩ := fun o => hb.cell (p := ⟨w.heap.size + 1, o, none⟩) hz
  exact ⟨Nat.lt_of_lt_of_le hz hb.size, hB.trans (hb.mono hB.size), ⟨(hk 0).trans p0, (hk 1).trans p1, (hk 2).trans p2⟩, (hm 0).trans p3, (hm 1).trans p4, (hm 2).trans p5⟩
theorem PN.start (w : World) (q d t l e n : Int) (T T' : TypeId) : PN w ((w.alloc (.cells #[.int .i64 q, .int .i64 d, .int .i64 t] T)).alloc (.cells #[.int .i64 l, .int .i64 e, .int .i64 n] T')) q d t l e n :=
  ⟨by simp, ((Below.refl _ _).alloc (Nat.le_refl _) _).alloc (by simp) _, ⟨by simp [go_sem], by simp [go_sem], by simp [go_sem]⟩, by simp [go_sem], by simp [go_sem], by simp [go_sem]⟩
theorem PN.done {w W W' : World} {q d t l e n : Int} (h : PN w W q d t l e n) (hb : Below W.heap.size W W') : Below w.heap.size w W' := (h.next hb).2.1
theorem PN.back {w W : World} {q d t l e n : Int} (h : PN w W q d t l e n) : Below w.heap.size w W := h.2.1

/-- What is wrong with params, a time and numbers. -/
def allE (now q d t l e n : Int) : Int := if checkE q d t = 0 then (if timeE now = 0 then numE l e n else timeE now) else 1
theorem checkE_ne {q d t : Int} (h : checkE q d t ≠ 0) : checkE q d t = 1 := by unfold checkE at h ⊢; split <;> simp_all

theorem call_any (now q d t l e n : Int) (w : World) :
    Calls Try.prog 20 #[.int .i64 now, .agg #[.int .i64 q, .int .i64 d, .int .i64 t], .agg #[.int .i64 l, .int .i64 e, .int .i64 n]] w fun E w' => E = .returned (.int .i64 (allE now q d t l e n)) ∧ Below w.heap.size w w' := by
  have S0 := Lib.hid (PN.start w q d t l e n 23 25)
  have c1 := fun W => check_any q d t W
  have c2 := fun W => time_any now W
  have c3 := Lib.hid (fun W => ccheck_any l e n W)
  by_cases h1 : checkE q d t = 0
  · rw [h1] at c1
    have C1 := Lib.hid c1
    by_cases h2 : timeE now = 0
    · have x : allE now q d t l e n = numE l e n := by unfold allE; rw [if_pos h1, if_pos h2]
      rw [x]
      rw [h2] at c2
      have C2 := Lib.hid c2
      clear x c1 c2 h1 h2
      generalize numE l e n = y at *
      go_enter Try.func20, Try.ntmps20
      go_wp2_with fail
      refine (C1.out _).mono ?_
      rintro E w1 ⟨rfl, b1⟩
      have S1 := Lib.hid (S0.out.next b1)
      obtain ⟨_, _, ⟨p0, p1, p2⟩, p3, p4, p5⟩ := S1.out
      go_wp2_with fail
      refine (C2.out _).mono ?_
      rintro E w2 ⟨rfl, rfl⟩
      go_wp2_with fail
      refine (c3.out _).mono ?_
      rintro E w3 ⟨rfl, b3⟩
      go_wp2
      go_ret
      exact ⟨rfl, S1.out.done b3⟩
    · have x : allE now q d t l e n = timeE now := by unfold allE; rw [if_pos h1, if_neg h2]
      have h2' : (timeE now != 0) = true := by simpa using h2
      rw [x]
      have C2 := Lib.hid c2
      clear x c1 c2 h1 h2
      generalize timeE now = y at *
      go_enter Try.func20, Try.ntmps20
      go_wp2_with fail
      refine (C1.out _).mono ?_
      rintro E w1 ⟨rfl, b1⟩
      have S1 := Lib.hid (S0.out.next b1)
      go_wp2_with fail
      refine (C2.out _).mono ?_
      rintro E w2 ⟨rfl, rfl⟩
      go_wp2
      go_ret
      exact ⟨rfl, S1.out.back⟩
  · have x : allE now q d t l e n = 1 := by unfold allE; rw [if_neg h1]
    rw [checkE_ne h1] at c1
    rw [x]
    have C1 := Lib.hid c1
    clear x c1 c2 h1
    go_enter Try.func20, Try.ntmps20
    go_wp2_with fail
    refine (C1.out _).mono ?_
    rintro E w1 ⟨rfl, b1⟩
    have S1 := Lib.hid (S0.out.next b1)
    go_wp2
    go_ret
    exact ⟨rfl, S1.out.back⟩
end Go.Proofs.YtbkdfbddcfglgaaRRR
