/-
  The walk of AdmitTests.
-/
import Derived.Test.YtfjepkakimhbbaaAj
import Derived.Test.YtfjepkakimhbbaaOpA
namespace Go.Proofs.Ytfjepkakimhbbaa
open Go.RowKit Go.Sort Go.Shelf Go.Maps
set_option linter.unusedVariables false
set_option linter.unusedSimpArgs false

/-- The rule in its box. -/
def Ru (w W : World) (h : Bool) (c k : Int) : Prop := Below w.heap.size w W ∧ Box3 W w.heap.size 23 (.bool h) (.int .i64 c) (.int .i64 k)
theorem Ru.next {w W W' : World} {h : Bool} {c k : Int} (s : Ru w W h c k) (b : Below W.heap.size W W') : Ru w W' h c k := ⟨s.1.trans (b.mono s.1.size), s.2.next' b⟩
theorem Ru.start (w : World) (h : Bool) (c k : Int) : Ru w (w.alloc (.cells #[.bool h, .int .i64 c, .int .i64 k] 23)) h c k := ⟨(Below.refl _ _).alloc (Nat.le_refl _) _, Box3.start _ _ _ _ _⟩

/-- A callee whose answer is known wherever all lies as it lay. -/
theorem lies_at {P : Program} {f : FuncId} {args : Array Value} {w : World} {v : Value} (h : ∀ W, Below w.heap.size w W → Calls P f args W fun e w' => e = .returned v ∧ Below W.heap.size W w') (q : LiesB w) : Calls P f args q.v fun e w' => e = .returned v ∧ LyingB w w' :=
  (h q.v q.h).mono fun _ w' ⟨he, hb⟩ => ⟨he, ⟨w', q.h.trans (hb.mono q.h.size)⟩, rfl⟩
theorem tests_long (h : Bool) (c k : Int) (a : Option Addr) (n cap : Nat) (m : Int) (h2 : decide (70 < n) = true) (h2' : decide (70 < (n : Int)) = true) (cA : AwC9) (w : World) :
    Calls Try.prog 3 #[.agg #[.bool h, .int .i64 c, .int .i64 k], .slice a n cap, .int .i64 m] w fun E w' => E = .returned (.bool true) ∧ Below w.heap.size w w' := by
  go_enter Try.func3, Try.ntmps3
  go_wp2_with fail
  refine (Hid.out cA _).mono ?_
  rintro e w1 ⟨rfl, b1⟩
  go_wp2
  go_ret
  exact ⟨rfl, below_alloc b1⟩

set_option maxHeartbeats 4000000 in
set_option maxRecDepth 20000 in
theorem tests_bad (h : Bool) (c k : Int) (a : Option Addr) (n cap : Nat) (L : List Pa) (m : Int) (hL : L.length = n) (hn : n ≤ 70) (hr : ruleE c k = 1) (cA : AwC9) (w : World) (hp : PAt w a L) :
    Calls Try.prog 3 #[.agg #[.bool h, .int .i64 c, .int .i64 k], .slice a n cap, .int .i64 m] w fun E w' => E = .returned (.bool true) ∧ Below w.heap.size w w' := by
  have h2 : decide (70 < n) = false := decide_eq_false (by omega)
  have h2' : decide (70 < (n : Int)) = false := decide_eq_false (by omega)
  have CL : Hid (∀ W, Below w.heap.size w W → Calls Try.prog 10 #[.agg #[.bool h, .int .i64 c, .int .i64 k], .slice a n cap] W fun e w' => e = .returned (.tuple #[.int .i64 0, .int .i64 0, .int .i64 1]) ∧ Below W.heap.size W w') := fun W hW => by
    have := load_any h c k a cap L (by omega) W (hp.next hW)
    rw [hL] at this
    rwa [show LoadR h c k L = (0, 0, 1) by unfold LoadR; rw [if_neg (by omega)]] at this
  have CB : Hid (∀ W, Calls Try.prog 11 #[.agg #[.bool h, .int .i64 c, .int .i64 k], .int .i64 m] W fun e w' => e = .returned (.tuple #[.int .i64 0, .int .i64 1]) ∧ Below W.heap.size W w') := fun W => by
    have := aBound_any h c k m W
    rwa [show BoundR h c k m = (0, 1) by unfold BoundR; rw [if_neg (by omega)]] at this
  have CU : Hid (∀ W, Calls Try.prog 12 #[.int .i64 c, .int .i64 k] W fun e w' => e = .returned (.bool false) ∧ W = w') := fun W => by
    have := rrule_any c k W
    rwa [hr] at this
  have CC : ∀ W, Calls Try.prog 13 #[.agg #[.bool h, .int .i64 c, .int .i64 k]] W fun e w' => e = .returned (.int .i64 1) ∧ Below W.heap.size W w' := fun W => by
    have := acheck_any h c k W
    rwa [hr] at this
  have CT : ∀ W, Below w.heap.size w W → Calls Try.prog 14 #[.agg #[.bool h, .int .i64 c, .int .i64 k], .slice a n cap] W fun e w' => e = .returned (.int .i64 (testE h c k L)) ∧ Below W.heap.size W w' := fun W hW => by
    have := atest_any h c k a cap L (by omega) W (hp.next hW)
    rwa [hL] at this
  have CV : ∀ W, Below w.heap.size w W → Calls Try.prog 15 #[.agg #[.bool h, .int .i64 c, .int .i64 k], .slice a n cap] W fun e w' => e = .returned (.int .i64 (testE h c k L)) ∧ Below W.heap.size W w' := fun W hW => by
    have := ltest_any h c k a cap L (by omega) W (hp.next hW)
    rwa [hL] at this
  have et : testE h c k L = 1 := by unfold testE; rw [if_neg (by omega)]
  rw [et] at CT CV
  have S0 := Lib.hid (Ru.start w h c k)
  obtain ⟨W0, hW0⟩ : ∃ W0, w.alloc (.cells #[.bool h, .int .i64 c, .int .i64 k] 23) = W0 := ⟨_, rfl⟩
  rw [hW0] at S0
  have HW := Lib.hid hW0
  have KT := Lib.hid CT
  have KV := Lib.hid CV
  have KC := Lib.hid CC
  clear hW0 CT CV CC hp hL hr et
  go_enter Try.func3, Try.ntmps3
  go_wp2_with fail
  rw [HW.out]
  refine (CL.out _ S0.out.1).mono ?_
  rintro e w1 ⟨rfl, b1⟩
  have S1 := Lib.hid (S0.out.next b1)
  have p0 := S1.out.2.c0
  have p1 := S1.out.2.c1
  have p2 := S1.out.2.c2
  go_wp2_with fail
  refine (CB.out _).mono ?_
  rintro e w2 ⟨rfl, b2⟩
  have S2 := Lib.hid (S1.out.next b2)
  clear p0 p1 p2
  have p0 := S2.out.2.c0
  have p1 := S2.out.2.c1
  have p2 := S2.out.2.c2
  go_wp2_with fail
  refine (CU.out _).mono ?_
  rintro e w3 ⟨rfl, rfl⟩
  go_wp2_with fail
  refine (KC.out _).mono ?_
  rintro e w4 ⟨rfl, b4⟩
  have S4 := Lib.hid (S2.out.next b4)
  clear p0 p1 p2
  have p0 := S4.out.2.c0
  have p1 := S4.out.2.c1
  have p2 := S4.out.2.c2
  go_wp2_with fail
  refine (KT.out _ S4.out.1).mono ?_
  rintro e w5 ⟨rfl, b5⟩
  have S5 := Lib.hid (S4.out.next b5)
  go_wp2_with fail
  refine (Hid.out cA _).mono ?_
  rintro e w6 ⟨rfl, b6⟩
  go_wp2
  go_ret
  exact ⟨rfl, (S5.out.next b6).1⟩

set_option maxHeartbeats 4000000 in
set_option maxRecDepth 20000 in
theorem tests_in_ok (h : Bool) (c k : Int) (a : Option Addr) (n cap : Nat) (L : List Pa) (m : Int) (hL : L.length = n) (hn : n ≤ 70) (hr : ruleE c k = 0) (m0 : 0 ≤ m) (m1 : m ≤ 1048576) (hA : allB L = true) (cA : AwC9) (w : World) (hp : PAt w a L) :
    Calls Try.prog 3 #[.agg #[.bool h, .int .i64 c, .int .i64 k], .slice a n cap, .int .i64 m] w fun E w' => E = .returned (.bool true) ∧ Below w.heap.size w w' := by
  have h2 : decide (70 < n) = false := decide_eq_false (by omega)
  have h2' : decide (70 < (n : Int)) = false := decide_eq_false (by omega)
  have CL : Hid (∀ W, Below w.heap.size w W → Calls Try.prog 10 #[.agg #[.bool h, .int .i64 c, .int .i64 k], .slice a n cap] W fun e w' => e = .returned (.tuple #[.int .i64 (sumU h L), .int .i64 (maxU h L), .int .i64 0]) ∧ Below W.heap.size W w') := fun W hW => by
    have := load_any h c k a cap L (by omega) W (hp.next hW)
    rw [hL] at this
    rwa [show LoadR h c k L = (sumU h L, maxU h L, 0) by unfold LoadR loadR; rw [if_pos hr, hA]; rfl] at this
  have CB : Hid (∀ W, Calls Try.prog 11 #[.agg #[.bool h, .int .i64 c, .int .i64 k], .int .i64 m] W fun e w' => e = .returned (.tuple #[.int .i64 (boundN h c k m), .int .i64 0]) ∧ Below W.heap.size W w') := fun W => by
    have := aBound_any h c k m W
    rwa [show BoundR h c k m = (boundN h c k m, 0) by unfold BoundR; rw [if_pos hr, if_neg (by omega)]] at this
  have CU : Hid (∀ W, Calls Try.prog 12 #[.int .i64 c, .int .i64 k] W fun e w' => e = .returned (.bool true) ∧ W = w') := fun W => by
    have := rrule_any c k W
    rwa [hr] at this
  have CC : ∀ W, Calls Try.prog 13 #[.agg #[.bool h, .int .i64 c, .int .i64 k]] W fun e w' => e = .returned (.int .i64 0) ∧ Below W.heap.size W w' := fun W => by
    have := acheck_any h c k W
    rwa [hr] at this
  have CT : ∀ W, Below w.heap.size w W → Calls Try.prog 14 #[.agg #[.bool h, .int .i64 c, .int .i64 k], .slice a n cap] W fun e w' => e = .returned (.int .i64 (testE h c k L)) ∧ Below W.heap.size W w' := fun W hW => by
    have := atest_any h c k a cap L (by omega) W (hp.next hW)
    rwa [hL] at this
  have CV : ∀ W, Below w.heap.size w W → Calls Try.prog 15 #[.agg #[.bool h, .int .i64 c, .int .i64 k], .slice a n cap] W fun e w' => e = .returned (.int .i64 (testE h c k L)) ∧ Below W.heap.size W w' := fun W hW => by
    have := ltest_any h c k a cap L (by omega) W (hp.next hW)
    rwa [hL] at this
  have CRL : Hid (∀ W, Below w.heap.size w W → Calls Try.prog 17 #[.bool h, .slice a n cap] W fun e w' => e = .returned (.tuple #[.int .i64 (sumU h L), .int .i64 (maxU h L), .bool true]) ∧ Below W.heap.size W w') := fun W hW => by
    have := rload_any h a cap L (by omega) W (hp.next hW)
    rw [hL] at this
    rwa [show rloadR h L = (sumU h L, maxU h L, true) by unfold rloadR; rw [hA]; rfl] at this
  have CBB : Hid (∀ W, Calls Try.prog 16 #[.bool h, .int .i64 c, .int .i64 k, .int .i64 m] W fun e w' => e = .returned (.int .i64 (boundN h c k m)) ∧ W = w') := fun W => rbound_any h c k m hr m0 m1 W
  have d0 : decide (m < 0) = false := decide_eq_false (by omega)
  have d1 : decide (1048576 < m) = false := decide_eq_false (by omega)
  have S0 := Lib.hid (Ru.start w h c k)
  obtain ⟨W0, hW0⟩ : ∃ W0, w.alloc (.cells #[.bool h, .int .i64 c, .int .i64 k] 23) = W0 := ⟨_, rfl⟩
  rw [hW0] at S0
  have HW := Lib.hid hW0
  have KT := Lib.hid CT
  have KV := Lib.hid CV
  have KC := Lib.hid CC
  clear hW0 CT CV CC hp hL hr hA
  generalize testE h c k L = t at *
  generalize sumU h L = s at *
  generalize maxU h L = g at *
  generalize boundN h c k m = B at *
  go_enter Try.func3, Try.ntmps3
  go_wp2_with fail
  rw [HW.out]
  refine (CL.out _ S0.out.1).mono ?_
  rintro e w1 ⟨rfl, b1⟩
  have S1 := Lib.hid (S0.out.next b1)
  have p0 := S1.out.2.c0
  have p1 := S1.out.2.c1
  have p2 := S1.out.2.c2
  go_wp2_with fail
  refine (CB.out _).mono ?_
  rintro e w2 ⟨rfl, b2⟩
  have S2 := Lib.hid (S1.out.next b2)
  clear p0 p1 p2
  have p0 := S2.out.2.c0
  have p1 := S2.out.2.c1
  have p2 := S2.out.2.c2
  go_wp2_with fail
  refine (CU.out _).mono ?_
  rintro e w3 ⟨rfl, rfl⟩
  haveI : Inhabited (LiesB w2) := ⟨⟨w2, Below.refl _ _⟩⟩
  have f0 : ∀ q : LiesB w2, q.v.cell? ⟨w.heap.size, 0, none⟩ = some (.bool h) := fun q => (S2.out.next q.h).2.c0
  have f1 : ∀ q : LiesB w2, q.v.cell? ⟨w.heap.size, 1, none⟩ = some (.int .i64 c) := fun q => (S2.out.next q.h).2.c1
  have f2 : ∀ q : LiesB w2, q.v.cell? ⟨w.heap.size, 2, none⟩ = some (.int .i64 k) := fun q => (S2.out.next q.h).2.c2
  have D1 : ∀ q : LiesB w2, Hid (Calls Try.prog 13 #[.agg #[.bool h, .int .i64 c, .int .i64 k]] q.v fun e w' => e = .returned (.int .i64 0) ∧ LyingB w2 w') := fun q => lies_call KC.out q
  have D2 : ∀ q : LiesB w2, Hid (Calls Try.prog 14 #[.agg #[.bool h, .int .i64 c, .int .i64 k], .slice a n cap] q.v fun e w' => e = .returned (.int .i64 t) ∧ LyingB w2 w') := fun q => lies_at (fun W hW => KT.out W (S2.out.1.trans (hW.mono S2.out.1.size))) q
  have D3 : ∀ q : LiesB w2, Hid (Calls Try.prog 15 #[.agg #[.bool h, .int .i64 c, .int .i64 k], .slice a n cap] q.v fun e w' => e = .returned (.int .i64 t) ∧ LyingB w2 w') := fun q => lies_at (fun W hW => KV.out W (S2.out.1.trans (hW.mono S2.out.1.size))) q
  clear p0 p1 p2
  go_wp2_with fail
  refine region_lies mixedT (by kernel_rfl) ?_
  repeat (go_big_quiet_step (first | (go_at_call 13; (with_reducible exact (D1 _).out)) | (go_at_call 14; (with_reducible exact (D2 _).out)) | (go_at_call 15; (with_reducible exact (D3 _).out))))
  refine wpQuiet_nil ?_
  rintro _ ⟨q4, rfl⟩
  have S4 := Lib.hid (S2.out.next q4.h)
  clear f0 f1 f2 D1 D2 D3
  have p0 := S4.out.2.c0
  have p1 := S4.out.2.c1
  have p2 := S4.out.2.c2
  go_wp2_with fail
  refine (CBB.out _).mono ?_
  rintro e w5 ⟨rfl, rfl⟩
  go_wp2_with fail
  refine (CRL.out _ S4.out.1).mono ?_
  rintro e w6 ⟨rfl, b6⟩
  have S6 := Lib.hid (S4.out.next b6)
  go_wp2_with fail
  refine (Hid.out cA _).mono ?_
  rintro e w7 ⟨rfl, b7⟩
  go_wp2
  go_ret
  exact ⟨rfl, (S6.out.next b7).1⟩

set_option maxHeartbeats 4000000 in
set_option maxRecDepth 20000 in
theorem tests_in_no (h : Bool) (c k : Int) (a : Option Addr) (n cap : Nat) (L : List Pa) (m : Int) (hL : L.length = n) (hn : n ≤ 70) (hr : ruleE c k = 0) (m0 : 0 ≤ m) (m1 : m ≤ 1048576) (hA : allB L = false) (cA : AwC9) (w : World) (hp : PAt w a L) :
    Calls Try.prog 3 #[.agg #[.bool h, .int .i64 c, .int .i64 k], .slice a n cap, .int .i64 m] w fun E w' => E = .returned (.bool true) ∧ Below w.heap.size w w' := by
  have h2 : decide (70 < n) = false := decide_eq_false (by omega)
  have h2' : decide (70 < (n : Int)) = false := decide_eq_false (by omega)
  have CL : Hid (∀ W, Below w.heap.size w W → Calls Try.prog 10 #[.agg #[.bool h, .int .i64 c, .int .i64 k], .slice a n cap] W fun e w' => e = .returned (.tuple #[.int .i64 0, .int .i64 0, .int .i64 1]) ∧ Below W.heap.size W w') := fun W hW => by
    have := load_any h c k a cap L (by omega) W (hp.next hW)
    rw [hL] at this
    rwa [show LoadR h c k L = (0, 0, 1) by unfold LoadR loadR; rw [if_pos hr, hA]; rfl] at this
  have CB : Hid (∀ W, Calls Try.prog 11 #[.agg #[.bool h, .int .i64 c, .int .i64 k], .int .i64 m] W fun e w' => e = .returned (.tuple #[.int .i64 (boundN h c k m), .int .i64 0]) ∧ Below W.heap.size W w') := fun W => by
    have := aBound_any h c k m W
    rwa [show BoundR h c k m = (boundN h c k m, 0) by unfold BoundR; rw [if_pos hr, if_neg (by omega)]] at this
  have CU : Hid (∀ W, Calls Try.prog 12 #[.int .i64 c, .int .i64 k] W fun e w' => e = .returned (.bool true) ∧ W = w') := fun W => by
    have := rrule_any c k W
    rwa [hr] at this
  have CC : ∀ W, Calls Try.prog 13 #[.agg #[.bool h, .int .i64 c, .int .i64 k]] W fun e w' => e = .returned (.int .i64 0) ∧ Below W.heap.size W w' := fun W => by
    have := acheck_any h c k W
    rwa [hr] at this
  have CT : ∀ W, Below w.heap.size w W → Calls Try.prog 14 #[.agg #[.bool h, .int .i64 c, .int .i64 k], .slice a n cap] W fun e w' => e = .returned (.int .i64 (testE h c k L)) ∧ Below W.heap.size W w' := fun W hW => by
    have := atest_any h c k a cap L (by omega) W (hp.next hW)
    rwa [hL] at this
  have CV : ∀ W, Below w.heap.size w W → Calls Try.prog 15 #[.agg #[.bool h, .int .i64 c, .int .i64 k], .slice a n cap] W fun e w' => e = .returned (.int .i64 (testE h c k L)) ∧ Below W.heap.size W w' := fun W hW => by
    have := ltest_any h c k a cap L (by omega) W (hp.next hW)
    rwa [hL] at this
  have CRL : Hid (∀ W, Below w.heap.size w W → Calls Try.prog 17 #[.bool h, .slice a n cap] W fun e w' => e = .returned (.tuple #[.int .i64 0, .int .i64 0, .bool false]) ∧ Below W.heap.size W w') := fun W hW => by
    have := rload_any h a cap L (by omega) W (hp.next hW)
    rw [hL] at this
    rwa [show rloadR h L = (0, 0, false) by unfold rloadR; rw [hA]; rfl] at this
  have CBB : Hid (∀ W, Calls Try.prog 16 #[.bool h, .int .i64 c, .int .i64 k, .int .i64 m] W fun e w' => e = .returned (.int .i64 (boundN h c k m)) ∧ W = w') := fun W => rbound_any h c k m hr m0 m1 W
  have d0 : decide (m < 0) = false := decide_eq_false (by omega)
  have d1 : decide (1048576 < m) = false := decide_eq_false (by omega)
  have S0 := Lib.hid (Ru.start w h c k)
  obtain ⟨W0, hW0⟩ : ∃ W0, w.alloc (.cells #[.bool h, .int .i64 c, .int .i64 k] 23) = W0 := ⟨_, rfl⟩
  rw [hW0] at S0
  have HW := Lib.hid hW0
  have KT := Lib.hid CT
  have KV := Lib.hid CV
  have KC := Lib.hid CC
  clear hW0 CT CV CC hp hL hr hA
  generalize testE h c k L = t at *
  generalize boundN h c k m = B at *
  go_enter Try.func3, Try.ntmps3
  go_wp2_with fail
  rw [HW.out]
  refine (CL.out _ S0.out.1).mono ?_
  rintro e w1 ⟨rfl, b1⟩
  have S1 := Lib.hid (S0.out.next b1)
  have p0 := S1.out.2.c0
  have p1 := S1.out.2.c1
  have p2 := S1.out.2.c2
  go_wp2_with fail
  refine (CB.out _).mono ?_
  rintro e w2 ⟨rfl, b2⟩
  have S2 := Lib.hid (S1.out.next b2)
  clear p0 p1 p2
  have p0 := S2.out.2.c0
  have p1 := S2.out.2.c1
  have p2 := S2.out.2.c2
  go_wp2_with fail
  refine (CU.out _).mono ?_
  rintro e w3 ⟨rfl, rfl⟩
  haveI : Inhabited (LiesB w2) := ⟨⟨w2, Below.refl _ _⟩⟩
  have f0 : ∀ q : LiesB w2, q.v.cell? ⟨w.heap.size, 0, none⟩ = some (.bool h) := fun q => (S2.out.next q.h).2.c0
  have f1 : ∀ q : LiesB w2, q.v.cell? ⟨w.heap.size, 1, none⟩ = some (.int .i64 c) := fun q => (S2.out.next q.h).2.c1
  have f2 : ∀ q : LiesB w2, q.v.cell? ⟨w.heap.size, 2, none⟩ = some (.int .i64 k) := fun q => (S2.out.next q.h).2.c2
  have D1 : ∀ q : LiesB w2, Hid (Calls Try.prog 13 #[.agg #[.bool h, .int .i64 c, .int .i64 k]] q.v fun e w' => e = .returned (.int .i64 0) ∧ LyingB w2 w') := fun q => lies_call KC.out q
  have D2 : ∀ q : LiesB w2, Hid (Calls Try.prog 14 #[.agg #[.bool h, .int .i64 c, .int .i64 k], .slice a n cap] q.v fun e w' => e = .returned (.int .i64 t) ∧ LyingB w2 w') := fun q => lies_at (fun W hW => KT.out W (S2.out.1.trans (hW.mono S2.out.1.size))) q
  have D3 : ∀ q : LiesB w2, Hid (Calls Try.prog 15 #[.agg #[.bool h, .int .i64 c, .int .i64 k], .slice a n cap] q.v fun e w' => e = .returned (.int .i64 t) ∧ LyingB w2 w') := fun q => lies_at (fun W hW => KV.out W (S2.out.1.trans (hW.mono S2.out.1.size))) q
  clear p0 p1 p2
  go_wp2_with fail
  refine region_lies mixedT (by kernel_rfl) ?_
  repeat (go_big_quiet_step (first | (go_at_call 13; (with_reducible exact (D1 _).out)) | (go_at_call 14; (with_reducible exact (D2 _).out)) | (go_at_call 15; (with_reducible exact (D3 _).out))))
  refine wpQuiet_nil ?_
  rintro _ ⟨q4, rfl⟩
  have S4 := Lib.hid (S2.out.next q4.h)
  clear f0 f1 f2 D1 D2 D3
  have p0 := S4.out.2.c0
  have p1 := S4.out.2.c1
  have p2 := S4.out.2.c2
  go_wp2_with fail
  refine (CBB.out _).mono ?_
  rintro e w5 ⟨rfl, rfl⟩
  go_wp2_with fail
  refine (CRL.out _ S4.out.1).mono ?_
  rintro e w6 ⟨rfl, b6⟩
  have S6 := Lib.hid (S4.out.next b6)
  go_wp2_with fail
  refine (Hid.out cA _).mono ?_
  rintro e w7 ⟨rfl, b7⟩
  go_wp2
  go_ret
  exact ⟨rfl, (S6.out.next b7).1⟩

set_option maxHeartbeats 4000000 in
set_option maxRecDepth 20000 in
theorem tests_out_ok (h : Bool) (c k : Int) (a : Option Addr) (n cap : Nat) (L : List Pa) (m : Int) (hL : L.length = n) (hn : n ≤ 70) (hr : ruleE c k = 0) (hm : m < 0 ∨ 1048576 < m) (M0 M1 : Bool) (hM0 : decide (m < 0) = M0) (hM1 : decide (1048576 < m) = M1) (hM : M0 = true ∨ (M0 = false ∧ M1 = true)) (hA : allB L = true) (cA : AwC9) (w : World) (hp : PAt w a L) :
    Calls Try.prog 3 #[.agg #[.bool h, .int .i64 c, .int .i64 k], .slice a n cap, .int .i64 m] w fun E w' => E = .returned (.bool true) ∧ Below w.heap.size w w' := by
  have h2 : decide (70 < n) = false := decide_eq_false (by omega)
  have h2' : decide (70 < (n : Int)) = false := decide_eq_false (by omega)
  have CL : Hid (∀ W, Below w.heap.size w W → Calls Try.prog 10 #[.agg #[.bool h, .int .i64 c, .int .i64 k], .slice a n cap] W fun e w' => e = .returned (.tuple #[.int .i64 (sumU h L), .int .i64 (maxU h L), .int .i64 0]) ∧ Below W.heap.size W w') := fun W hW => by
    have := load_any h c k a cap L (by omega) W (hp.next hW)
    rw [hL] at this
    rwa [show LoadR h c k L = (sumU h L, maxU h L, 0) by unfold LoadR loadR; rw [if_pos hr, hA]; rfl] at this
  have CB : Hid (∀ W, Calls Try.prog 11 #[.agg #[.bool h, .int .i64 c, .int .i64 k], .int .i64 m] W fun e w' => e = .returned (.tuple #[.int .i64 0, .int .i64 10]) ∧ Below W.heap.size W w') := fun W => by
    have := aBound_any h c k m W
    rwa [show BoundR h c k m = (0, 10) by unfold BoundR; rw [if_pos hr, if_pos hm]] at this
  have CU : Hid (∀ W, Calls Try.prog 12 #[.int .i64 c, .int .i64 k] W fun e w' => e = .returned (.bool true) ∧ W = w') := fun W => by
    have := rrule_any c k W
    rwa [hr] at this
  have CC : ∀ W, Calls Try.prog 13 #[.agg #[.bool h, .int .i64 c, .int .i64 k]] W fun e w' => e = .returned (.int .i64 0) ∧ Below W.heap.size W w' := fun W => by
    have := acheck_any h c k W
    rwa [hr] at this
  have CT : ∀ W, Below w.heap.size w W → Calls Try.prog 14 #[.agg #[.bool h, .int .i64 c, .int .i64 k], .slice a n cap] W fun e w' => e = .returned (.int .i64 (testE h c k L)) ∧ Below W.heap.size W w' := fun W hW => by
    have := atest_any h c k a cap L (by omega) W (hp.next hW)
    rwa [hL] at this
  have CV : ∀ W, Below w.heap.size w W → Calls Try.prog 15 #[.agg #[.bool h, .int .i64 c, .int .i64 k], .slice a n cap] W fun e w' => e = .returned (.int .i64 (testE h c k L)) ∧ Below W.heap.size W w' := fun W hW => by
    have := ltest_any h c k a cap L (by omega) W (hp.next hW)
    rwa [hL] at this
  have CRL : Hid (∀ W, Below w.heap.size w W → Calls Try.prog 17 #[.bool h, .slice a n cap] W fun e w' => e = .returned (.tuple #[.int .i64 (sumU h L), .int .i64 (maxU h L), .bool true]) ∧ Below W.heap.size W w') := fun W hW => by
    have := rload_any h a cap L (by omega) W (hp.next hW)
    rw [hL] at this
    rwa [show rloadR h L = (sumU h L, maxU h L, true) by unfold rloadR; rw [hA]; rfl] at this
  have S0 := Lib.hid (Ru.start w h c k)
  obtain ⟨W0, hW0⟩ : ∃ W0, w.alloc (.cells #[.bool h, .int .i64 c, .int .i64 k] 23) = W0 := ⟨_, rfl⟩
  rw [hW0] at S0
  have HW := Lib.hid hW0
  have KT := Lib.hid CT
  have KV := Lib.hid CV
  have KC := Lib.hid CC
  clear hW0 CT CV CC hp hL hr hA hm
  generalize testE h c k L = t at *
  generalize sumU h L = s at *
  generalize maxU h L = g at *
  rcases hM with rfl | ⟨rfl, rfl⟩
  · go_enter Try.func3, Try.ntmps3
    go_wp2_with fail
    rw [HW.out]
    refine (CL.out _ S0.out.1).mono ?_
    rintro e w1 ⟨rfl, b1⟩
    have S1 := Lib.hid (S0.out.next b1)
    have p0 := S1.out.2.c0
    have p1 := S1.out.2.c1
    have p2 := S1.out.2.c2
    go_wp2_with fail
    refine (CB.out _).mono ?_
    rintro e w2 ⟨rfl, b2⟩
    have S2 := Lib.hid (S1.out.next b2)
    clear p0 p1 p2
    have p0 := S2.out.2.c0
    have p1 := S2.out.2.c1
    have p2 := S2.out.2.c2
    go_wp2_with fail
    refine (CU.out _).mono ?_
    rintro e w3 ⟨rfl, rfl⟩
    haveI : Inhabited (LiesB w2) := ⟨⟨w2, Below.refl _ _⟩⟩
    have f0 : ∀ q : LiesB w2, q.v.cell? ⟨w.heap.size, 0, none⟩ = some (.bool h) := fun q => (S2.out.next q.h).2.c0
    have f1 : ∀ q : LiesB w2, q.v.cell? ⟨w.heap.size, 1, none⟩ = some (.int .i64 c) := fun q => (S2.out.next q.h).2.c1
    have f2 : ∀ q : LiesB w2, q.v.cell? ⟨w.heap.size, 2, none⟩ = some (.int .i64 k) := fun q => (S2.out.next q.h).2.c2
    have D1 : ∀ q : LiesB w2, Hid (Calls Try.prog 13 #[.agg #[.bool h, .int .i64 c, .int .i64 k]] q.v fun e w' => e = .returned (.int .i64 0) ∧ LyingB w2 w') := fun q => lies_call KC.out q
    have D2 : ∀ q : LiesB w2, Hid (Calls Try.prog 14 #[.agg #[.bool h, .int .i64 c, .int .i64 k], .slice a n cap] q.v fun e w' => e = .returned (.int .i64 t) ∧ LyingB w2 w') := fun q => lies_at (fun W hW => KT.out W (S2.out.1.trans (hW.mono S2.out.1.size))) q
    have D3 : ∀ q : LiesB w2, Hid (Calls Try.prog 15 #[.agg #[.bool h, .int .i64 c, .int .i64 k], .slice a n cap] q.v fun e w' => e = .returned (.int .i64 t) ∧ LyingB w2 w') := fun q => lies_at (fun W hW => KV.out W (S2.out.1.trans (hW.mono S2.out.1.size))) q
    clear p0 p1 p2
    go_wp2_with fail
    refine region_lies mixedT (by kernel_rfl) ?_
    repeat (go_big_quiet_step (first | (go_at_call 13; (with_reducible exact (D1 _).out)) | (go_at_call 14; (with_reducible exact (D2 _).out)) | (go_at_call 15; (with_reducible exact (D3 _).out))))
    refine wpQuiet_nil ?_
    rintro _ ⟨q4, rfl⟩
    have S4 := Lib.hid (S2.out.next q4.h)
    clear f0 f1 f2 D1 D2 D3
    have p0 := S4.out.2.c0
    have p1 := S4.out.2.c1
    have p2 := S4.out.2.c2
    go_wp2_with fail
    refine (CRL.out _ S4.out.1).mono ?_
    rintro e w6 ⟨rfl, b6⟩
    have S6 := Lib.hid (S4.out.next b6)
    go_wp2_with fail
    refine (Hid.out cA _).mono ?_
    rintro e w7 ⟨rfl, b7⟩
    go_wp2
    go_ret
    exact ⟨rfl, (S6.out.next b7).1⟩
  · go_enter Try.func3, Try.ntmps3
    go_wp2_with fail
    rw [HW.out]
    refine (CL.out _ S0.out.1).mono ?_
    rintro e w1 ⟨rfl, b1⟩
    have S1 := Lib.hid (S0.out.next b1)
    have p0 := S1.out.2.c0
    have p1 := S1.out.2.c1
    have p2 := S1.out.2.c2
    go_wp2_with fail
    refine (CB.out _).mono ?_
    rintro e w2 ⟨rfl, b2⟩
    have S2 := Lib.hid (S1.out.next b2)
    clear p0 p1 p2
    have p0 := S2.out.2.c0
    have p1 := S2.out.2.c1
    have p2 := S2.out.2.c2
    go_wp2_with fail
    refine (CU.out _).mono ?_
    rintro e w3 ⟨rfl, rfl⟩
    haveI : Inhabited (LiesB w2) := ⟨⟨w2, Below.refl _ _⟩⟩
    have f0 : ∀ q : LiesB w2, q.v.cell? ⟨w.heap.size, 0, none⟩ = some (.bool h) := fun q => (S2.out.next q.h).2.c0
    have f1 : ∀ q : LiesB w2, q.v.cell? ⟨w.heap.size, 1, none⟩ = some (.int .i64 c) := fun q => (S2.out.next q.h).2.c1
    have f2 : ∀ q : LiesB w2, q.v.cell? ⟨w.heap.size, 2, none⟩ = some (.int .i64 k) := fun q => (S2.out.next q.h).2.c2
    have D1 : ∀ q : LiesB w2, Hid (Calls Try.prog 13 #[.agg #[.bool h, .int .i64 c, .int .i64 k]] q.v fun e w' => e = .returned (.int .i64 0) ∧ LyingB w2 w') := fun q => lies_call KC.out q
    have D2 : ∀ q : LiesB w2, Hid (Calls Try.prog 14 #[.agg #[.bool h, .int .i64 c, .int .i64 k], .slice a n cap] q.v fun e w' => e = .returned (.int .i64 t) ∧ LyingB w2 w') := fun q => lies_at (fun W hW => KT.out W (S2.out.1.trans (hW.mono S2.out.1.size))) q
    have D3 : ∀ q : LiesB w2, Hid (Calls Try.prog 15 #[.agg #[.bool h, .int .i64 c, .int .i64 k], .slice a n cap] q.v fun e w' => e = .returned (.int .i64 t) ∧ LyingB w2 w') := fun q => lies_at (fun W hW => KV.out W (S2.out.1.trans (hW.mono S2.out.1.size))) q
    clear p0 p1 p2
    go_wp2_with fail
    refine region_lies mixedT (by kernel_rfl) ?_
    repeat (go_big_quiet_step (first | (go_at_call 13; (with_reducible exact (D1 _).out)) | (go_at_call 14; (with_reducible exact (D2 _).out)) | (go_at_call 15; (with_reducible exact (D3 _).out))))
    refine wpQuiet_nil ?_
    rintro _ ⟨q4, rfl⟩
    have S4 := Lib.hid (S2.out.next q4.h)
    clear f0 f1 f2 D1 D2 D3
    have p0 := S4.out.2.c0
    have p1 := S4.out.2.c1
    have p2 := S4.out.2.c2
    go_wp2_with fail
    refine (CRL.out _ S4.out.1).mono ?_
    rintro e w6 ⟨rfl, b6⟩
    have S6 := Lib.hid (S4.out.next b6)
    go_wp2_with fail
    refine (Hid.out cA _).mono ?_
    rintro e w7 ⟨rfl, b7⟩
    go_wp2
    go_ret
    exact ⟨rfl, (S6.out.next b7).1⟩

set_option maxHeartbeats 4000000 in
set_option maxRecDepth 20000 in
theorem tests_out_no (h : Bool) (c k : Int) (a : Option Addr) (n cap : Nat) (L : List Pa) (m : Int) (hL : L.length = n) (hn : n ≤ 70) (hr : ruleE c k = 0) (hm : m < 0 ∨ 1048576 < m) (M0 M1 : Bool) (hM0 : decide (m < 0) = M0) (hM1 : decide (1048576 < m) = M1) (hM : M0 = true ∨ (M0 = false ∧ M1 = true)) (hA : allB L = false) (cA : AwC9) (w : World) (hp : PAt w a L) :
    Calls Try.prog 3 #[.agg #[.bool h, .int .i64 c, .int .i64 k], .slice a n cap, .int .i64 m] w fun E w' => E = .returned (.bool true) ∧ Below w.heap.size w w' := by
  have h2 : decide (70 < n) = false := decide_eq_false (by omega)
  have h2' : decide (70 < (n : Int)) = false := decide_eq_false (by omega)
  have CL : Hid (∀ W, Below w.heap.size w W → Calls Try.prog 10 #[.agg #[.bool h, .int .i64 c, .int .i64 k], .slice a n cap] W fun e w' => e = .returned (.tuple #[.int .i64 0, .int .i64 0, .int .i64 1]) ∧ Below W.heap.size W w') := fun W hW => by
    have := load_any h c k a cap L (by omega) W (hp.next hW)
    rw [hL] at this
    rwa [show LoadR h c k L = (0, 0, 1) by unfold LoadR loadR; rw [if_pos hr, hA]; rfl] at this
  have CB : Hid (∀ W, Calls Try.prog 11 #[.agg #[.bool h, .int .i64 c, .int .i64 k], .int .i64 m] W fun e w' => e = .returned (.tuple #[.int .i64 0, .int .i64 10]) ∧ Below W.heap.size W w') := fun W => by
    have := aBound_any h c k m W
    rwa [show BoundR h c k m = (0, 10) by unfold BoundR; rw [if_pos hr, if_pos hm]] at this
  have CU : Hid (∀ W, Calls Try.prog 12 #[.int .i64 c, .int .i64 k] W fun e w' => e = .returned (.bool true) ∧ W = w') := fun W => by
    have := rrule_any c k W
    rwa [hr] at this
  have CC : ∀ W, Calls Try.prog 13 #[.agg #[.bool h, .int .i64 c, .int .i64 k]] W fun e w' => e = .returned (.int .i64 0) ∧ Below W.heap.size W w' := fun W => by
    have := acheck_any h c k W
    rwa [hr] at this
  have CT : ∀ W, Below w.heap.size w W → Calls Try.prog 14 #[.agg #[.bool h, .int .i64 c, .int .i64 k], .slice a n cap] W fun e w' => e = .returned (.int .i64 (testE h c k L)) ∧ Below W.heap.size W w' := fun W hW => by
    have := atest_any h c k a cap L (by omega) W (hp.next hW)
    rwa [hL] at this
  have CV : ∀ W, Below w.heap.size w W → Calls Try.prog 15 #[.agg #[.bool h, .int .i64 c, .int .i64 k], .slice a n cap] W fun e w' => e = .returned (.int .i64 (testE h c k L)) ∧ Below W.heap.size W w' := fun W hW => by
    have := ltest_any h c k a cap L (by omega) W (hp.next hW)
    rwa [hL] at this
  have CRL : Hid (∀ W, Below w.heap.size w W → Calls Try.prog 17 #[.bool h, .slice a n cap] W fun e w' => e = .returned (.tuple #[.int .i64 0, .int .i64 0, .bool false]) ∧ Below W.heap.size W w') := fun W hW => by
    have := rload_any h a cap L (by omega) W (hp.next hW)
    rw [hL] at this
    rwa [show rloadR h L = (0, 0, false) by unfold rloadR; rw [hA]; rfl] at this
  have S0 := Lib.hid (Ru.start w h c k)
  obtain ⟨W0, hW0⟩ : ∃ W0, w.alloc (.cells #[.bool h, .int .i64 c, .int .i64 k] 23) = W0 := ⟨_, rfl⟩
  rw [hW0] at S0
  have HW := Lib.hid hW0
  have KT := Lib.hid CT
  have KV := Lib.hid CV
  have KC := Lib.hid CC
  clear hW0 CT CV CC hp hL hr hA hm
  generalize testE h c k L = t at *
  rcases hM with rfl | ⟨rfl, rfl⟩
  · go_enter Try.func3, Try.ntmps3
    go_wp2_with fail
    rw [HW.out]
    refine (CL.out _ S0.out.1).mono ?_
    rintro e w1 ⟨rfl, b1⟩
    have S1 := Lib.hid (S0.out.next b1)
    have p0 := S1.out.2.c0
    have p1 := S1.out.2.c1
    have p2 := S1.out.2.c2
    go_wp2_with fail
    refine (CB.out _).mono ?_
    rintro e w2 ⟨rfl, b2⟩
    have S2 := Lib.hid (S1.out.next b2)
    clear p0 p1 p2
    have p0 := S2.out.2.c0
    have p1 := S2.out.2.c1
    have p2 := S2.out.2.c2
    go_wp2_with fail
    refine (CU.out _).mono ?_
    rintro e w3 ⟨rfl, rfl⟩
    haveI : Inhabited (LiesB w2) := ⟨⟨w2, Below.refl _ _⟩⟩
    have f0 : ∀ q : LiesB w2, q.v.cell? ⟨w.heap.size, 0, none⟩ = some (.bool h) := fun q => (S2.out.next q.h).2.c0
    have f1 : ∀ q : LiesB w2, q.v.cell? ⟨w.heap.size, 1, none⟩ = some (.int .i64 c) := fun q => (S2.out.next q.h).2.c1
    have f2 : ∀ q : LiesB w2, q.v.cell? ⟨w.heap.size, 2, none⟩ = some (.int .i64 k) := fun q => (S2.out.next q.h).2.c2
    have D1 : ∀ q : LiesB w2, Hid (Calls Try.prog 13 #[.agg #[.bool h, .int .i64 c, .int .i64 k]] q.v fun e w' => e = .returned (.int .i64 0) ∧ LyingB w2 w') := fun q => lies_call KC.out q
    have D2 : ∀ q : LiesB w2, Hid (Calls Try.prog 14 #[.agg #[.bool h, .int .i64 c, .int .i64 k], .slice a n cap] q.v fun e w' => e = .returned (.int .i64 t) ∧ LyingB w2 w') := fun q => lies_at (fun W hW => KT.out W (S2.out.1.trans (hW.mono S2.out.1.size))) q
    have D3 : ∀ q : LiesB w2, Hid (Calls Try.prog 15 #[.agg #[.bool h, .int .i64 c, .int .i64 k], .slice a n cap] q.v fun e w' => e = .returned (.int .i64 t) ∧ LyingB w2 w') := fun q => lies_at (fun W hW => KV.out W (S2.out.1.trans (hW.mono S2.out.1.size))) q
    clear p0 p1 p2
    go_wp2_with fail
    refine region_lies mixedT (by kernel_rfl) ?_
    repeat (go_big_quiet_step (first | (go_at_call 13; (with_reducible exact (D1 _).out)) | (go_at_call 14; (with_reducible exact (D2 _).out)) | (go_at_call 15; (with_reducible exact (D3 _).out))))
    refine wpQuiet_nil ?_
    rintro _ ⟨q4, rfl⟩
    have S4 := Lib.hid (S2.out.next q4.h)
    clear f0 f1 f2 D1 D2 D3
    have p0 := S4.out.2.c0
    have p1 := S4.out.2.c1
    have p2 := S4.out.2.c2
    go_wp2_with fail
    refine (CRL.out _ S4.out.1).mono ?_
    rintro e w6 ⟨rfl, b6⟩
    have S6 := Lib.hid (S4.out.next b6)
    go_wp2_with fail
    refine (Hid.out cA _).mono ?_
    rintro e w7 ⟨rfl, b7⟩
    go_wp2
    go_ret
    exact ⟨rfl, (S6.out.next b7).1⟩
  · go_enter Try.func3, Try.ntmps3
    go_wp2_with fail
    rw [HW.out]
    refine (CL.out _ S0.out.1).mono ?_
    rintro e w1 ⟨rfl, b1⟩
    have S1 := Lib.hid (S0.out.next b1)
    have p0 := S1.out.2.c0
    have p1 := S1.out.2.c1
    have p2 := S1.out.2.c2
    go_wp2_with fail
    refine (CB.out _).mono ?_
    rintro e w2 ⟨rfl, b2⟩
    have S2 := Lib.hid (S1.out.next b2)
    clear p0 p1 p2
    have p0 := S2.out.2.c0
    have p1 := S2.out.2.c1
    have p2 := S2.out.2.c2
    go_wp2_with fail
    refine (CU.out _).mono ?_
    rintro e w3 ⟨rfl, rfl⟩
    haveI : Inhabited (LiesB w2) := ⟨⟨w2, Below.refl _ _⟩⟩
    have f0 : ∀ q : LiesB w2, q.v.cell? ⟨w.heap.size, 0, none⟩ = some (.bool h) := fun q => (S2.out.next q.h).2.c0
    have f1 : ∀ q : LiesB w2, q.v.cell? ⟨w.heap.size, 1, none⟩ = some (.int .i64 c) := fun q => (S2.out.next q.h).2.c1
    have f2 : ∀ q : LiesB w2, q.v.cell? ⟨w.heap.size, 2, none⟩ = some (.int .i64 k) := fun q => (S2.out.next q.h).2.c2
    have D1 : ∀ q : LiesB w2, Hid (Calls Try.prog 13 #[.agg #[.bool h, .int .i64 c, .int .i64 k]] q.v fun e w' => e = .returned (.int .i64 0) ∧ LyingB w2 w') := fun q => lies_call KC.out q
    have D2 : ∀ q : LiesB w2, Hid (Calls Try.prog 14 #[.agg #[.bool h, .int .i64 c, .int .i64 k], .slice a n cap] q.v fun e w' => e = .returned (.int .i64 t) ∧ LyingB w2 w') := fun q => lies_at (fun W hW => KT.out W (S2.out.1.trans (hW.mono S2.out.1.size))) q
    have D3 : ∀ q : LiesB w2, Hid (Calls Try.prog 15 #[.agg #[.bool h, .int .i64 c, .int .i64 k], .slice a n cap] q.v fun e w' => e = .returned (.int .i64 t) ∧ LyingB w2 w') := fun q => lies_at (fun W hW => KV.out W (S2.out.1.trans (hW.mono S2.out.1.size))) q
    clear p0 p1 p2
    go_wp2_with fail
    refine region_lies mixedT (by kernel_rfl) ?_
    repeat (go_big_quiet_step (first | (go_at_call 13; (with_reducible exact (D1 _).out)) | (go_at_call 14; (with_reducible exact (D2 _).out)) | (go_at_call 15; (with_reducible exact (D3 _).out))))
    refine wpQuiet_nil ?_
    rintro _ ⟨q4, rfl⟩
    have S4 := Lib.hid (S2.out.next q4.h)
    clear f0 f1 f2 D1 D2 D3
    have p0 := S4.out.2.c0
    have p1 := S4.out.2.c1
    have p2 := S4.out.2.c2
    go_wp2_with fail
    refine (CRL.out _ S4.out.1).mono ?_
    rintro e w6 ⟨rfl, b6⟩
    have S6 := Lib.hid (S4.out.next b6)
    go_wp2_with fail
    refine (Hid.out cA _).mono ?_
    rintro e w7 ⟨rfl, b7⟩
    go_wp2
    go_ret
    exact ⟨rfl, (S6.out.next b7).1⟩

theorem walk_AdmitTests (h : Bool) (c k : Int) (a : Option Addr) (len cap : Nat) (m : Int) (w : World) (hc : -9223372036854775808 ≤ c ∧ c ≤ 9223372036854775807) (hk : -9223372036854775808 ≤ k ∧ k ≤ 9223372036854775807) (hL : ∃ L, ParIn w a len cap L) (hm : -9223372036854775808 ≤ m ∧ m ≤ 9223372036854775807) :
    Calls Try.prog 3 #[.agg #[.bool h, .int .i64 c, .int .i64 k], .slice a len cap, .int .i64 m] w fun E w' => E = .returned (.bool true) ∧ Below w.heap.size w w' := by
  obtain ⟨L, hP⟩ := hL
  by_cases h2 : 70 < len
  · exact tests_long h c k a len cap m (decide_eq_true h2) (decide_eq_true (by omega)) awC9 w
  rcases ruleE_two c k with hr | hr
  · by_cases hm : m < 0 ∨ 1048576 < m
    · have hM : decide (m < 0) = true ∨ (decide (m < 0) = false ∧ decide (1048576 < m) = true) := by
        by_cases x : m < 0
        · exact .inl (decide_eq_true x)
        · exact .inr ⟨decide_eq_false x, decide_eq_true (by omega)⟩
      cases hA : allB L with
      | true => exact tests_out_ok h c k a len cap L m hP.len_ (by omega) hr hm _ _ rfl rfl hM hA awC9 w hP.at_
      | false => exact tests_out_no h c k a len cap L m hP.len_ (by omega) hr hm _ _ rfl rfl hM hA awC9 w hP.at_
    · cases hA : allB L with
      | true => exact tests_in_ok h c k a len cap L m hP.len_ (by omega) hr (by omega) (by omega) hA awC9 w hP.at_
      | false => exact tests_in_no h c k a len cap L m hP.len_ (by omega) hr (by omega) (by omega) hA awC9 w hP.at_
  · exact tests_bad h c k a len cap L m hP.len_ (by omega) hr awC9 w hP.at_
end Go.Proofs.Ytfjepkakimhbbaa
