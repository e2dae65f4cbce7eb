/-
  The walk of CbsRefills.
-/
import Derived.Test.YtbkdfbddcfglgaaRRRCf
namespace Go.Proofs.YtbkdfbddcfglgaaRRR
open Go.RowKit
set_option linter.unusedVariables false
set_option linter.unusedSimpArgs false

/-- Two blocks in every world in which they lie as they lay. -/
theorem Two3.lies {w W : World} {T T' : TypeId} {a b c x y z : Int} (h : Two3 w W T T' a b c x y z) (q : LiesB W) :
    (q.v.cell? ⟨w.heap.size, 0, none⟩ = some (.int .i64 a) ∧ q.v.cell? ⟨w.heap.size, 1, none⟩ = some (.int .i64 b) ∧ q.v.cell? ⟨w.heap.size, 2, none⟩ = some (.int .i64 c)) ∧
    q.v.cell? ⟨w.heap.size + 1, 0, none⟩ = some (.int .i64 x) ∧ q.v.cell? ⟨w.heap.size + 1, 1, none⟩ = some (.int .i64 y) ∧ q.v.cell? ⟨w.heap.size + 1, 2, none⟩ = some (.int .i64 z) :=
  ⟨(h.next q.h).2.1.cells, (h.next q.h).2.2.cells⟩

def AwC6 : Prop := Hid (∀ W, Calls Try.prog 14 #[] W fun E w' => E = .returned (.bool true) ∧ Below W.heap.size W w')
theorem awC6 : AwC6 := Lib.hid (fun W => awake6_any W)

set_option maxHeartbeats 1000000 in
set_option maxRecDepth 20000 in
theorem refills_out (now q d t l e n : Int) (h : allE now q d t l e n ≠ 0) (cA : AwC6) (w : World) :
    Calls Try.prog 4 #[.int .i64 now, .agg #[.int .i64 q, .int .i64 d, .int .i64 t], .agg #[.int .i64 l, .int .i64 e, .int .i64 n]] w fun E w' => E = .returned (.bool true) ∧ Below w.heap.size w w' := by
  obtain ⟨W, hW⟩ : ∃ W, (w.alloc (.cells #[.int .i64 q, .int .i64 d, .int .i64 t] 23)).alloc (.cells #[.int .i64 l, .int .i64 e, .int .i64 n] 25) = W := ⟨_, rfl⟩
  have S0 := Lib.hid (hW ▸ Two3.start w 23 25 q d t l e n)
  have CP : ∀ q : LiesB W, Hid _ := fun q => Lib.hid (lies_call (fun W => plain_any l e n W) q)
  have CW : ∀ q : LiesB W, Hid _ := fun q' => Lib.hid (lies_call (fun W => rwrong_any now q d t l e n W) q')
  have h' : (allE now q d t l e n != 0) = true := by simpa using h
  clear h
  generalize allE now q d t l e n = x at *
  have f0 := fun q => (S0.out.lies q).1.1
  have f1 := fun q => (S0.out.lies q).1.2.1
  have f2 := fun q => (S0.out.lies q).1.2.2
  have f3 := fun q => (S0.out.lies q).2.1
  have f4 := fun q => (S0.out.lies q).2.2.1
  have f5 := fun q => (S0.out.lies q).2.2.2
  haveI hin : Inhabited (LiesB W) := ⟨⟨W, Below.refl _ _⟩⟩
  go_enter Try.func4, Try.ntmps4
  go_wp2_with fail
  refine region_lies mixedT (by kernel_rfl) ?_
  repeat (quiet_step (first | (go_at_call 9; (with_reducible exact (CP _).out)) | (go_at_call 10; (with_reducible exact (CW _).out))))
  refine wpQuiet_nil ?_
  rintro _ ⟨q, rfl⟩
  go_wp2_with fail
  refine (Hid.out cA _).mono ?_
  rintro E w1 ⟨rfl, b1⟩
  go_wp2
  go_ret
  exact ⟨rfl, (((S0.out.next q.h).next b1)).1⟩

set_option maxHeartbeats 1000000 in
set_option maxRecDepth 20000 in
theorem refills_more (now q d t l e n : Int) (hO : allE now q d t l e n = 0) (hq : decide (q < l) = true) (cA : AwC6) (w : World) :
    Calls Try.prog 4 #[.int .i64 now, .agg #[.int .i64 q, .int .i64 d, .int .i64 t], .agg #[.int .i64 l, .int .i64 e, .int .i64 n]] w fun E w' => E = .returned (.bool true) ∧ Below w.heap.size w w' := by
  obtain ⟨W, hW⟩ : ∃ W, (w.alloc (.cells #[.int .i64 q, .int .i64 d, .int .i64 t] 23)).alloc (.cells #[.int .i64 l, .int .i64 e, .int .i64 n] 25) = W := ⟨_, rfl⟩
  have S0 := Lib.hid (hW ▸ Two3.start w 23 25 q d t l e n)
  have CP : ∀ q : LiesB W, Hid _ := fun q => Lib.hid (lies_call (fun W => plain_any l e n W) q)
  have CW : ∀ q : LiesB W, Hid _ := fun q' => Lib.hid (lies_call (fun W => rwrong_any now q d t l e n W) q')
  rw [hO] at CW
  clear hO
  have f0 := fun q => (S0.out.lies q).1.1
  have f1 := fun q => (S0.out.lies q).1.2.1
  have f2 := fun q => (S0.out.lies q).1.2.2
  have f3 := fun q => (S0.out.lies q).2.1
  have f4 := fun q => (S0.out.lies q).2.2.1
  have f5 := fun q => (S0.out.lies q).2.2.2
  haveI hin : Inhabited (LiesB W) := ⟨⟨W, Below.refl _ _⟩⟩
  go_enter Try.func4, Try.ntmps4
  go_wp2_with fail
  refine region_lies mixedT (by kernel_rfl) ?_
  repeat (quiet_step (first | (go_at_call 9; (with_reducible exact (CP _).out)) | (go_at_call 10; (with_reducible exact (CW _).out))))
  refine wpQuiet_nil ?_
  rintro _ ⟨q2, rfl⟩
  go_wp2_with fail
  refine (Hid.out cA _).mono ?_
  rintro E w1 ⟨rfl, b1⟩
  go_wp2
  go_ret
  exact ⟨rfl, (((S0.out.next q2.h).next b1)).1⟩

set_option maxHeartbeats 1000000 in
set_option maxRecDepth 20000 in
theorem refills_err (now q d t l e n : Int) (hO : allE now q d t l e n = 0) (hq : decide (q < l) = false) (CR : Hid (∀ W, Calls Try.prog 11 #[.int .i64 now, .agg #[.int .i64 q, .int .i64 d, .int .i64 t], .agg #[.int .i64 l, .int .i64 e, .int .i64 n]] W fun E w' => E = .returned (.tuple #[.agg #[.int .i64 0, .int .i64 0, .int .i64 0], .int .i64 21]) ∧ Below W.heap.size W w')) (cA : AwC6) (w : World) :
    Calls Try.prog 4 #[.int .i64 now, .agg #[.int .i64 q, .int .i64 d, .int .i64 t], .agg #[.int .i64 l, .int .i64 e, .int .i64 n]] w fun E w' => E = .returned (.bool true) ∧ Below w.heap.size w w' := by
  obtain ⟨W, hW⟩ : ∃ W, (w.alloc (.cells #[.int .i64 q, .int .i64 d, .int .i64 t] 23)).alloc (.cells #[.int .i64 l, .int .i64 e, .int .i64 n] 25) = W := ⟨_, rfl⟩
  have S0 := Lib.hid (hW ▸ Two3.start w 23 25 q d t l e n)
  have CP : ∀ q : LiesB W, Hid _ := fun q => Lib.hid (lies_call (fun W => plain_any l e n W) q)
  have CW : ∀ q : LiesB W, Hid _ := fun q' => Lib.hid (lies_call (fun W => rwrong_any now q d t l e n W) q')
  rw [hO] at CW
  clear hO
  have f0 := fun q => (S0.out.lies q).1.1
  have f1 := fun q => (S0.out.lies q).1.2.1
  have f2 := fun q => (S0.out.lies q).1.2.2
  have f3 := fun q => (S0.out.lies q).2.1
  have f4 := fun q => (S0.out.lies q).2.2.1
  have f5 := fun q => (S0.out.lies q).2.2.2
  haveI hin : Inhabited (LiesB W) := ⟨⟨W, Below.refl _ _⟩⟩
  go_enter Try.func4, Try.ntmps4
  go_wp2_with fail
  refine region_lies mixedT (by kernel_rfl) ?_
  repeat (quiet_step (first | (go_at_call 9; (with_reducible exact (CP _).out)) | (go_at_call 10; (with_reducible exact (CW _).out))))
  refine wpQuiet_nil ?_
  rintro _ ⟨q2, rfl⟩
  have S1 := Lib.hid (S0.out.next q2.h)
  clear f0 f1 f2 f3 f4 f5 CP CW
  obtain ⟨p0, p1, p2⟩ := S1.out.2.1.cells
  obtain ⟨r0, r1, r2⟩ := S1.out.2.2.cells
  go_wp2_with fail
  refine (Hid.out CR _).mono ?_
  rintro E w1 ⟨rfl, b1⟩
  have S2 := Lib.hid (S1.out.next b1)
  have lt1 := S2.out.2.1.lt
  have lt2 := S2.out.2.2.lt
  clear p0 p1 p2 r0 r1 r2
  obtain ⟨p0, p1, p2⟩ := S2.out.2.1.cells
  obtain ⟨r0, r1, r2⟩ := S2.out.2.2.cells
  go_wp2_with fail
  refine (Hid.out cA _).mono ?_
  rintro E w2 ⟨rfl, b2⟩
  go_wp2
  go_ret
  exact ⟨rfl, (S2.out.1.alloc S2.out.1.size _).trans (b2.mono (by have := S2.out.1.size; simp; omega))⟩

set_option maxHeartbeats 1000000 in
set_option maxRecDepth 20000 in
theorem refills_pos (now q d t l e n : Int) (hO : allE now q d t l e n = 0) (hq : decide (q < l) = false) (hl : decide (0 < l) = true) (CR : Hid (∀ W, Calls Try.prog 11 #[.int .i64 now, .agg #[.int .i64 q, .int .i64 d, .int .i64 t], .agg #[.int .i64 l, .int .i64 e, .int .i64 n]] W fun E w' => E = .returned (.tuple #[.agg #[.int .i64 l, .int .i64 e, .int .i64 n], .int .i64 0]) ∧ Below W.heap.size W w')) (cA : AwC6) (w : World) :
    Calls Try.prog 4 #[.int .i64 now, .agg #[.int .i64 q, .int .i64 d, .int .i64 t], .agg #[.int .i64 l, .int .i64 e, .int .i64 n]] w fun E w' => E = .returned (.bool true) ∧ Below w.heap.size w w' := by
  obtain ⟨W, hW⟩ : ∃ W, (w.alloc (.cells #[.int .i64 q, .int .i64 d, .int .i64 t] 23)).alloc (.cells #[.int .i64 l, .int .i64 e, .int .i64 n] 25) = W := ⟨_, rfl⟩
  have S0 := Lib.hid (hW ▸ Two3.start w 23 25 q d t l e n)
  have CP : ∀ q : LiesB W, Hid _ := fun q => Lib.hid (lies_call (fun W => plain_any l e n W) q)
  have CW : ∀ q : LiesB W, Hid _ := fun q' => Lib.hid (lies_call (fun W => rwrong_any now q d t l e n W) q')
  rw [hO] at CW
  clear hO
  have f0 := fun q => (S0.out.lies q).1.1
  have f1 := fun q => (S0.out.lies q).1.2.1
  have f2 := fun q => (S0.out.lies q).1.2.2
  have f3 := fun q => (S0.out.lies q).2.1
  have f4 := fun q => (S0.out.lies q).2.2.1
  have f5 := fun q => (S0.out.lies q).2.2.2
  haveI hin : Inhabited (LiesB W) := ⟨⟨W, Below.refl _ _⟩⟩
  go_enter Try.func4, Try.ntmps4
  go_wp2_with fail
  refine region_lies mixedT (by kernel_rfl) ?_
  repeat (quiet_step (first | (go_at_call 9; (with_reducible exact (CP _).out)) | (go_at_call 10; (with_reducible exact (CW _).out))))
  refine wpQuiet_nil ?_
  rintro _ ⟨q2, rfl⟩
  have S1 := Lib.hid (S0.out.next q2.h)
  clear f0 f1 f2 f3 f4 f5 CP CW
  obtain ⟨p0, p1, p2⟩ := S1.out.2.1.cells
  obtain ⟨r0, r1, r2⟩ := S1.out.2.2.cells
  go_wp2_with fail
  refine (Hid.out CR _).mono ?_
  rintro E w1 ⟨rfl, b1⟩
  have S2 := Lib.hid (S1.out.next b1)
  have lt1 := S2.out.2.1.lt
  have lt2 := S2.out.2.2.lt
  clear p0 p1 p2 r0 r1 r2
  obtain ⟨p0, p1, p2⟩ := S2.out.2.1.cells
  obtain ⟨r0, r1, r2⟩ := S2.out.2.2.cells
  go_wp2_with fail
  refine (Hid.out cA _).mono ?_
  rintro E w2 ⟨rfl, b2⟩
  go_wp2
  go_ret
  exact ⟨rfl, (S2.out.1.alloc S2.out.1.size _).trans (b2.mono (by have := S2.out.1.size; simp; omega))⟩

set_option maxHeartbeats 1000000 in
set_option maxRecDepth 20000 in
theorem refills_same (now q d t l e n : Int) (hO : allE now q d t l e n = 0) (hq : decide (q < l) = false) (hl : decide (0 < l) = false) (a b c : Int) (CR : Hid (∀ W, Calls Try.prog 11 #[.int .i64 now, .agg #[.int .i64 q, .int .i64 d, .int .i64 t], .agg #[.int .i64 l, .int .i64 e, .int .i64 n]] W fun E w' => E = .returned (.tuple #[.agg #[.int .i64 a, .int .i64 b, .int .i64 c], .int .i64 0]) ∧ Below W.heap.size W w')) (n0 : 0 ≤ now) (n1 : now < 1099511627776) (q0 : 1 ≤ q) (q1 : q ≤ 1073741824) (d0 : 1 ≤ d) (d1 : d ≤ 1073741824) (t0 : 1 ≤ t) (t1 : t ≤ 1073741824) (b0 : 0 ≤ b) (b1 : b < 1099511627776) (c0 : 0 ≤ c) (c1 : c < 1099511627776) (g1 : decide (a < 1) = false) (g2 : decide (q < a) = false) (g3 : decide (b ≤ now) = false) (g4 : (c - b != t - d) = false) (g5 : (c == now + t) = true) (g6 : (a == q) = true) (cA : AwC6) (w : World) :
    Calls Try.prog 4 #[.int .i64 now, .agg #[.int .i64 q, .int .i64 d, .int .i64 t], .agg #[.int .i64 l, .int .i64 e, .int .i64 n]] w fun E w' => E = .returned (.bool true) ∧ Below w.heap.size w w' := by
  obtain ⟨W, hW⟩ : ∃ W, (w.alloc (.cells #[.int .i64 q, .int .i64 d, .int .i64 t] 23)).alloc (.cells #[.int .i64 l, .int .i64 e, .int .i64 n] 25) = W := ⟨_, rfl⟩
  have S0 := Lib.hid (hW ▸ Two3.start w 23 25 q d t l e n)
  have CP : ∀ q : LiesB W, Hid _ := fun q => Lib.hid (lies_call (fun W => plain_any l e n W) q)
  have CW : ∀ q : LiesB W, Hid _ := fun q' => Lib.hid (lies_call (fun W => rwrong_any now q d t l e n W) q')
  rw [hO] at CW
  clear hO
  have f0 := fun q => (S0.out.lies q).1.1
  have f1 := fun q => (S0.out.lies q).1.2.1
  have f2 := fun q => (S0.out.lies q).1.2.2
  have f3 := fun q => (S0.out.lies q).2.1
  have f4 := fun q => (S0.out.lies q).2.2.1
  have f5 := fun q => (S0.out.lies q).2.2.2
  haveI hin : Inhabited (LiesB W) := ⟨⟨W, Below.refl _ _⟩⟩
  go_enter Try.func4, Try.ntmps4
  go_wp2_with fail
  refine region_lies mixedT (by kernel_rfl) ?_
  repeat (quiet_step (first | (go_at_call 9; (with_reducible exact (CP _).out)) | (go_at_call 10; (with_reducible exact (CW _).out))))
  refine wpQuiet_nil ?_
  rintro _ ⟨q2, rfl⟩
  have S1 := Lib.hid (S0.out.next q2.h)
  clear f0 f1 f2 f3 f4 f5 CP CW
  obtain ⟨p0, p1, p2⟩ := S1.out.2.1.cells
  obtain ⟨r0, r1, r2⟩ := S1.out.2.2.cells
  go_wp2_with fail
  refine (Hid.out CR _).mono ?_
  rintro E w1 ⟨rfl, b1⟩
  have S2 := Lib.hid (S1.out.next b1)
  have lt1 := S2.out.2.1.lt
  have lt2 := S2.out.2.2.lt
  clear p0 p1 p2 r0 r1 r2
  obtain ⟨p0, p1, p2⟩ := S2.out.2.1.cells
  obtain ⟨r0, r1, r2⟩ := S2.out.2.2.cells
  go_wp2_with fail
  refine (Hid.out cA _).mono ?_
  rintro E w2 ⟨rfl, b2⟩
  go_wp2
  go_ret
  exact ⟨rfl, (S2.out.1.alloc S2.out.1.size _).trans (b2.mono (by have := S2.out.1.size; simp; omega))⟩

set_option maxHeartbeats 1000000 in
set_option maxRecDepth 20000 in
theorem refills_paid1 (now q d t l e n : Int) (hO : allE now q d t l e n = 0) (hq : decide (q < l) = false) (hl : decide (0 < l) = false) (a b c : Int) (CR : Hid (∀ W, Calls Try.prog 11 #[.int .i64 now, .agg #[.int .i64 q, .int .i64 d, .int .i64 t], .agg #[.int .i64 l, .int .i64 e, .int .i64 n]] W fun E w' => E = .returned (.tuple #[.agg #[.int .i64 a, .int .i64 b, .int .i64 c], .int .i64 0]) ∧ Below W.heap.size W w')) (n0 : 0 ≤ now) (n1 : now < 1099511627776) (q0 : 1 ≤ q) (q1 : q ≤ 1073741824) (d0 : 1 ≤ d) (d1 : d ≤ 1073741824) (t0 : 1 ≤ t) (t1 : t ≤ 1073741824) (b0 : 0 ≤ b) (b1 : b < 1099511627776) (c0 : 0 ≤ c) (c1 : c < 1099511627776) (g1 : decide (a < 1) = false) (g2 : decide (q < a) = false) (g3 : decide (b ≤ now) = false) (g4 : (c - b != t - d) = false) (j : Int) (l0 : -1073741824 ≤ l) (l1 : l ≤ 0) (x0 : 0 ≤ n) (x1 : n < 1099511627776) (e1 : (c - n) / t = j) (m0 : 0 ≤ c - n) (j0 : 1 ≤ j) (jb : j ≤ 1099511627776) (jt0 : 0 ≤ j * t) (jt1 : j * t ≤ 1099511627776) (jq0 : 0 ≤ j * q) (jq1 : j * q ≤ 2147483648) (g7 : (c == n + j * t) = true) (g8 : (a == l + j * q) = true) (g5 : (c == now + t) = false) (cA : AwC6) (w : World) :
    Calls Try.prog 4 #[.int .i64 now, .agg #[.int .i64 q, .int .i64 d, .int .i64 t], .agg #[.int .i64 l, .int .i64 e, .int .i64 n]] w fun E w' => E = .returned (.bool true) ∧ Below w.heap.size w w' := by
  obtain ⟨W, hW⟩ : ∃ W, (w.alloc (.cells #[.int .i64 q, .int .i64 d, .int .i64 t] 23)).alloc (.cells #[.int .i64 l, .int .i64 e, .int .i64 n] 25) = W := ⟨_, rfl⟩
  have S0 := Lib.hid (hW ▸ Two3.start w 23 25 q d t l e n)
  have CP : ∀ q : LiesB W, Hid _ := fun q => Lib.hid (lies_call (fun W => plain_any l e n W) q)
  have CW : ∀ q : LiesB W, Hid _ := fun q' => Lib.hid (lies_call (fun W => rwrong_any now q d t l e n W) q')
  rw [hO] at CW
  clear hO
  have f0 := fun q => (S0.out.lies q).1.1
  have f1 := fun q => (S0.out.lies q).1.2.1
  have f2 := fun q => (S0.out.lies q).1.2.2
  have f3 := fun q => (S0.out.lies q).2.1
  have f4 := fun q => (S0.out.lies q).2.2.1
  have f5 := fun q => (S0.out.lies q).2.2.2
  haveI hin : Inhabited (LiesB W) := ⟨⟨W, Below.refl _ _⟩⟩
  have e2 : (c - n).tdiv t = j := by rw [Int.tdiv_eq_ediv_of_nonneg m0]; exact e1
  have j1 : decide (1 ≤ j) = true := decide_eq_true j0
  go_enter Try.func4, Try.ntmps4
  go_wp2_with fail
  refine region_lies mixedT (by kernel_rfl) ?_
  repeat (quiet_step (first | (go_at_call 9; (with_reducible exact (CP _).out)) | (go_at_call 10; (with_reducible exact (CW _).out))))
  refine wpQuiet_nil ?_
  rintro _ ⟨q2, rfl⟩
  have S1 := Lib.hid (S0.out.next q2.h)
  clear f0 f1 f2 f3 f4 f5 CP CW
  obtain ⟨p0, p1, p2⟩ := S1.out.2.1.cells
  obtain ⟨r0, r1, r2⟩ := S1.out.2.2.cells
  go_wp2_with fail
  refine (Hid.out CR _).mono ?_
  rintro E w1 ⟨rfl, b1⟩
  have S2 := Lib.hid (S1.out.next b1)
  have lt1 := S2.out.2.1.lt
  have lt2 := S2.out.2.2.lt
  clear p0 p1 p2 r0 r1 r2
  obtain ⟨p0, p1, p2⟩ := S2.out.2.1.cells
  obtain ⟨r0, r1, r2⟩ := S2.out.2.2.cells
  go_wp2_with fail
  refine (Hid.out cA _).mono ?_
  rintro E w2 ⟨rfl, b2⟩
  go_wp2
  go_ret
  exact ⟨rfl, (S2.out.1.alloc S2.out.1.size _).trans (b2.mono (by have := S2.out.1.size; simp; omega))⟩

set_option maxHeartbeats 1000000 in
set_option maxRecDepth 20000 in
theorem refills_paid2 (now q d t l e n : Int) (hO : allE now q d t l e n = 0) (hq : decide (q < l) = false) (hl : decide (0 < l) = false) (a b c : Int) (CR : Hid (∀ W, Calls Try.prog 11 #[.int .i64 now, .agg #[.int .i64 q, .int .i64 d, .int .i64 t], .agg #[.int .i64 l, .int .i64 e, .int .i64 n]] W fun E w' => E = .returned (.tuple #[.agg #[.int .i64 a, .int .i64 b, .int .i64 c], .int .i64 0]) ∧ Below W.heap.size W w')) (n0 : 0 ≤ now) (n1 : now < 1099511627776) (q0 : 1 ≤ q) (q1 : q ≤ 1073741824) (d0 : 1 ≤ d) (d1 : d ≤ 1073741824) (t0 : 1 ≤ t) (t1 : t ≤ 1073741824) (b0 : 0 ≤ b) (b1 : b < 1099511627776) (c0 : 0 ≤ c) (c1 : c < 1099511627776) (g1 : decide (a < 1) = false) (g2 : decide (q < a) = false) (g3 : decide (b ≤ now) = false) (g4 : (c - b != t - d) = false) (j : Int) (l0 : -1073741824 ≤ l) (l1 : l ≤ 0) (x0 : 0 ≤ n) (x1 : n < 1099511627776) (e1 : (c - n) / t = j) (m0 : 0 ≤ c - n) (j0 : 1 ≤ j) (jb : j ≤ 1099511627776) (jt0 : 0 ≤ j * t) (jt1 : j * t ≤ 1099511627776) (jq0 : 0 ≤ j * q) (jq1 : j * q ≤ 2147483648) (g7 : (c == n + j * t) = true) (g8 : (a == l + j * q) = true) (g5 : (c == now + t) = true) (g6 : (a == q) = false) (cA : AwC6) (w : World) :
    Calls Try.prog 4 #[.int .i64 now, .agg #[.int .i64 q, .int .i64 d, .int .i64 t], .agg #[.int .i64 l, .int .i64 e, .int .i64 n]] w fun E w' => E = .returned (.bool true) ∧ Below w.heap.size w w' := by
  obtain ⟨W, hW⟩ : ∃ W, (w.alloc (.cells #[.int .i64 q, .int .i64 d, .int .i64 t] 23)).alloc (.cells #[.int .i64 l, .int .i64 e, .int .i64 n] 25) = W := ⟨_, rfl⟩
  have S0 := Lib.hid (hW ▸ Two3.start w 23 25 q d t l e n)
  have CP : ∀ q : LiesB W, Hid _ := fun q => Lib.hid (lies_call (fun W => plain_any l e n W) q)
  have CW : ∀ q : LiesB W, Hid _ := fun q' => Lib.hid (lies_call (fun W => rwrong_any now q d t l e n W) q')
  rw [hO] at CW
  clear hO
  have f0 := fun q => (S0.out.lies q).1.1
  have f1 := fun q => (S0.out.lies q).1.2.1
  have f2 := fun q => (S0.out.lies q).1.2.2
  have f3 := fun q => (S0.out.lies q).2.1
  have f4 := fun q => (S0.out.lies q).2.2.1
  have f5 := fun q => (S0.out.lies q).2.2.2
  haveI hin : Inhabited (LiesB W) := ⟨⟨W, Below.refl _ _⟩⟩
  have e2 : (c - n).tdiv t = j := by rw [Int.tdiv_eq_ediv_of_nonneg m0]; exact e1
  have j1 : decide (1 ≤ j) = true := decide_eq_true j0
  go_enter Try.func4, Try.ntmps4
  go_wp2_with fail
  refine region_lies mixedT (by kernel_rfl) ?_
  repeat (quiet_step (first | (go_at_call 9; (with_reducible exact (CP _).out)) | (go_at_call 10; (with_reducible exact (CW _).out))))
  refine wpQuiet_nil ?_
  rintro _ ⟨q2, rfl⟩
  have S1 := Lib.hid (S0.out.next q2.h)
  clear f0 f1 f2 f3 f4 f5 CP CW
  obtain ⟨p0, p1, p2⟩ := S1.out.2.1.cells
  obtain ⟨r0, r1, r2⟩ := S1.out.2.2.cells
  go_wp2_with fail
  refine (Hid.out CR _).mono ?_
  rintro E w1 ⟨rfl, b1⟩
  have S2 := Lib.hid (S1.out.next b1)
  have lt1 := S2.out.2.1.lt
  have lt2 := S2.out.2.2.lt
  clear p0 p1 p2 r0 r1 r2
  obtain ⟨p0, p1, p2⟩ := S2.out.2.1.cells
  obtain ⟨r0, r1, r2⟩ := S2.out.2.2.cells
  go_wp2_with fail
  refine (Hid.out cA _).mono ?_
  rintro E w2 ⟨rfl, b2⟩
  go_wp2
  go_ret
  exact ⟨rfl, (S2.out.1.alloc S2.out.1.size _).trans (b2.mono (by have := S2.out.1.size; simp; omega))⟩
end Go.Proofs.YtbkdfbddcfglgaaRRR
