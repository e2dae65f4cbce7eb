/-
  The walk of CbsLags.
-/
import Derived.Test.YtbkdfbddcfglgaaRRRLawRefills
namespace Go.Proofs.YtbkdfbddcfglgaaRRR
open Go.RowKit
set_option linter.unusedVariables false
set_option linter.unusedSimpArgs false

set_option maxHeartbeats 1000000 in
set_option maxRecDepth 20000 in
theorem lags_out (q d t l e n s : Int) (hO : allE 0 q d t l e n ≠ 0)  (cA : AwC6) (w : World) :
    Calls Try.prog 5 #[.agg #[.int .i64 q, .int .i64 d, .int .i64 t], .agg #[.int .i64 l, .int .i64 e, .int .i64 n], .int .i64 s] w fun E w' => E = .returned (.bool true) ∧ Below w.heap.size w w' := by
  obtain ⟨W, hW⟩ : ∃ W, (w.alloc (.cells #[.int .i64 q, .int .i64 d, .int .i64 t] 23)).alloc (.cells #[.int .i64 l, .int .i64 e, .int .i64 n] 25) = W := ⟨_, rfl⟩
  have S0 := Lib.hid (hW ▸ Two3.start w 23 25 q d t l e n)
  have CP : ∀ q : LiesB W, Hid _ := fun q => Lib.hid (lies_call (fun W => plain_any l e n W) q)
  have CW : ∀ q : LiesB W, Hid _ := fun q' => Lib.hid (lies_call (fun W => rwrong_any 0 q d t l e n W) q')
  have h' : (allE 0 q d t l e n != 0) = true := by simpa using hO
  clear hO
  generalize allE 0 q d t l e n = x at *
  have f0 := fun q => (S0.out.lies q).1.1
  have f1 := fun q => (S0.out.lies q).1.2.1
  have f2 := fun q => (S0.out.lies q).1.2.2
  have f3 := fun q => (S0.out.lies q).2.1
  have f4 := fun q => (S0.out.lies q).2.2.1
  have f5 := fun q => (S0.out.lies q).2.2.2
  haveI hin : Inhabited (LiesB W) := ⟨⟨W, Below.refl _ _⟩⟩
  go_enter Try.func5, Try.ntmps5
  go_wp2_with fail
  refine region_lies mixedT (by kernel_rfl) ?_
  repeat (quiet_step (first | (go_at_call 9; (with_reducible exact (CP _).out)) | (go_at_call 10; (with_reducible exact (CW _).out))))
  refine wpQuiet_nil ?_
  rintro _ ⟨q2, rfl⟩
  go_wp2_with fail
  refine (Hid.out cA _).mono ?_
  rintro E w1 ⟨rfl, b1⟩
  go_wp2
  go_ret
  exact ⟨rfl, (((S0.out.next q2.h).next b1)).1⟩

set_option maxHeartbeats 1000000 in
set_option maxRecDepth 20000 in
theorem lags_neg (q d t l e n s : Int) (hO : allE 0 q d t l e n = 0) (s0 : decide (s < 0) = true) (cA : AwC6) (w : World) :
    Calls Try.prog 5 #[.agg #[.int .i64 q, .int .i64 d, .int .i64 t], .agg #[.int .i64 l, .int .i64 e, .int .i64 n], .int .i64 s] w fun E w' => E = .returned (.bool true) ∧ Below w.heap.size w w' := by
  obtain ⟨W, hW⟩ : ∃ W, (w.alloc (.cells #[.int .i64 q, .int .i64 d, .int .i64 t] 23)).alloc (.cells #[.int .i64 l, .int .i64 e, .int .i64 n] 25) = W := ⟨_, rfl⟩
  have S0 := Lib.hid (hW ▸ Two3.start w 23 25 q d t l e n)
  have CP : ∀ q : LiesB W, Hid _ := fun q => Lib.hid (lies_call (fun W => plain_any l e n W) q)
  have CW : ∀ q : LiesB W, Hid _ := fun q' => Lib.hid (lies_call (fun W => rwrong_any 0 q d t l e n W) q')
  rw [hO] at CW
  clear hO

  have f0 := fun q => (S0.out.lies q).1.1
  have f1 := fun q => (S0.out.lies q).1.2.1
  have f2 := fun q => (S0.out.lies q).1.2.2
  have f3 := fun q => (S0.out.lies q).2.1
  have f4 := fun q => (S0.out.lies q).2.2.1
  have f5 := fun q => (S0.out.lies q).2.2.2
  haveI hin : Inhabited (LiesB W) := ⟨⟨W, Below.refl _ _⟩⟩
  go_enter Try.func5, Try.ntmps5
  go_wp2_with fail
  refine region_lies mixedT (by kernel_rfl) ?_
  repeat (quiet_step (first | (go_at_call 9; (with_reducible exact (CP _).out)) | (go_at_call 10; (with_reducible exact (CW _).out))))
  refine wpQuiet_nil ?_
  rintro _ ⟨q2, rfl⟩
  go_wp2_with fail
  refine (Hid.out cA _).mono ?_
  rintro E w1 ⟨rfl, b1⟩
  go_wp2
  go_ret
  exact ⟨rfl, (((S0.out.next q2.h).next b1)).1⟩

set_option maxHeartbeats 1000000 in
set_option maxRecDepth 20000 in
theorem lags_big (q d t l e n s : Int) (hO : allE 0 q d t l e n = 0) (s0 : decide (s < 0) = false) (s1 : decide (1073741824 < s) = true) (cA : AwC6) (w : World) :
    Calls Try.prog 5 #[.agg #[.int .i64 q, .int .i64 d, .int .i64 t], .agg #[.int .i64 l, .int .i64 e, .int .i64 n], .int .i64 s] w fun E w' => E = .returned (.bool true) ∧ Below w.heap.size w w' := by
  obtain ⟨W, hW⟩ : ∃ W, (w.alloc (.cells #[.int .i64 q, .int .i64 d, .int .i64 t] 23)).alloc (.cells #[.int .i64 l, .int .i64 e, .int .i64 n] 25) = W := ⟨_, rfl⟩
  have S0 := Lib.hid (hW ▸ Two3.start w 23 25 q d t l e n)
  have CP : ∀ q : LiesB W, Hid _ := fun q => Lib.hid (lies_call (fun W => plain_any l e n W) q)
  have CW : ∀ q : LiesB W, Hid _ := fun q' => Lib.hid (lies_call (fun W => rwrong_any 0 q d t l e n W) q')
  rw [hO] at CW
  clear hO

  have f0 := fun q => (S0.out.lies q).1.1
  have f1 := fun q => (S0.out.lies q).1.2.1
  have f2 := fun q => (S0.out.lies q).1.2.2
  have f3 := fun q => (S0.out.lies q).2.1
  have f4 := fun q => (S0.out.lies q).2.2.1
  have f5 := fun q => (S0.out.lies q).2.2.2
  haveI hin : Inhabited (LiesB W) := ⟨⟨W, Below.refl _ _⟩⟩
  go_enter Try.func5, Try.ntmps5
  go_wp2_with fail
  refine region_lies mixedT (by kernel_rfl) ?_
  repeat (quiet_step (first | (go_at_call 9; (with_reducible exact (CP _).out)) | (go_at_call 10; (with_reducible exact (CW _).out))))
  refine wpQuiet_nil ?_
  rintro _ ⟨q2, rfl⟩
  go_wp2_with fail
  refine (Hid.out cA _).mono ?_
  rintro E w1 ⟨rfl, b1⟩
  go_wp2
  go_ret
  exact ⟨rfl, (((S0.out.next q2.h).next b1)).1⟩

set_option maxHeartbeats 1000000 in
set_option maxRecDepth 20000 in
theorem lags_bad_none (q d t l e n s : Int) (hO : allE 0 q d t l e n = 0) (s0 : decide (s < 0) = false) (s1 : decide (1073741824 < s) = false) (a : Int) (CL : Hid (∀ W, Calls Try.prog 13 #[.agg #[.int .i64 q, .int .i64 d, .int .i64 t], .agg #[.int .i64 l, .int .i64 e, .int .i64 n]] W fun E w' => E = .returned (.tuple #[.int .i64 a, .int .i64 0]) ∧ Below W.heap.size W w')) (a0 : 0 ≤ a) (a1 : a ≤ e) (e1 : e < 1099511627776) (g1 : decide (a < 0) = false) (g2 : decide (e < a) = false) (hl : decide (0 < l) = false) (CC : Hid (∀ W, Calls Try.prog 7 #[.agg #[.int .i64 l, .int .i64 e, .int .i64 n], .int .i64 s] W fun E w' => E = .returned (.tuple #[.agg #[.int .i64 0, .int .i64 0, .int .i64 0], .int .i64 10]) ∧ Below W.heap.size W w')) (cA : AwC6) (w : World) :
    Calls Try.prog 5 #[.agg #[.int .i64 q, .int .i64 d, .int .i64 t], .agg #[.int .i64 l, .int .i64 e, .int .i64 n], .int .i64 s] w fun E w' => E = .returned (.bool true) ∧ Below w.heap.size w w' := by
  obtain ⟨W, hW⟩ : ∃ W, (w.alloc (.cells #[.int .i64 q, .int .i64 d, .int .i64 t] 23)).alloc (.cells #[.int .i64 l, .int .i64 e, .int .i64 n] 25) = W := ⟨_, rfl⟩
  have S0 := Lib.hid (hW ▸ Two3.start w 23 25 q d t l e n)
  have CP : ∀ q : LiesB W, Hid _ := fun q => Lib.hid (lies_call (fun W => plain_any l e n W) q)
  have CW : ∀ q : LiesB W, Hid _ := fun q' => Lib.hid (lies_call (fun W => rwrong_any 0 q d t l e n W) q')
  rw [hO] at CW
  clear hO

  have f0 := fun q => (S0.out.lies q).1.1
  have f1 := fun q => (S0.out.lies q).1.2.1
  have f2 := fun q => (S0.out.lies q).1.2.2
  have f3 := fun q => (S0.out.lies q).2.1
  have f4 := fun q => (S0.out.lies q).2.2.1
  have f5 := fun q => (S0.out.lies q).2.2.2
  haveI hin : Inhabited (LiesB W) := ⟨⟨W, Below.refl _ _⟩⟩
  go_enter Try.func5, Try.ntmps5
  go_wp2_with fail
  refine region_lies mixedT (by kernel_rfl) ?_
  repeat (quiet_step (first | (go_at_call 9; (with_reducible exact (CP _).out)) | (go_at_call 10; (with_reducible exact (CW _).out))))
  refine wpQuiet_nil ?_
  rintro _ ⟨q2, rfl⟩
  have S1 := Lib.hid (S0.out.next q2.h)
  clear f0 f1 f2 f3 f4 f5 CP CW
  obtain ⟨p0, p1, p2⟩ := S1.out.2.1.cells
  obtain ⟨r0, r1, r2⟩ := S1.out.2.2.cells
  go_wp2_with fail
  refine (Hid.out CL _).mono ?_
  rintro E w1 ⟨rfl, b1⟩
  have S2 := Lib.hid (S1.out.next b1)
  clear p0 p1 p2 r0 r1 r2
  obtain ⟨p0, p1, p2⟩ := S2.out.2.1.cells
  obtain ⟨r0, r1, r2⟩ := S2.out.2.2.cells
  go_wp2_with fail
  refine (Hid.out CC _).mono ?_
  rintro E w2 ⟨rfl, b2⟩
  have S3 := Lib.hid (S2.out.next b2)
  have lt1 := S3.out.2.1.lt
  have lt2 := S3.out.2.2.lt
  clear p0 p1 p2 r0 r1 r2
  obtain ⟨p0, p1, p2⟩ := S3.out.2.1.cells
  obtain ⟨r0, r1, r2⟩ := S3.out.2.2.cells
  go_wp2_with fail
  refine (Hid.out cA _).mono ?_
  rintro E w3 ⟨rfl, b3⟩
  go_wp2
  go_ret
  exact ⟨rfl, (S3.out.1.alloc S3.out.1.size _).trans (b3.mono (by have := S3.out.1.size; simp; omega))⟩

set_option maxHeartbeats 1000000 in
set_option maxRecDepth 20000 in
theorem lags_ok_none (q d t l e n s : Int) (hO : allE 0 q d t l e n = 0) (s0 : decide (s < 0) = false) (s1 : decide (1073741824 < s) = false) (a : Int) (CL : Hid (∀ W, Calls Try.prog 13 #[.agg #[.int .i64 q, .int .i64 d, .int .i64 t], .agg #[.int .i64 l, .int .i64 e, .int .i64 n]] W fun E w' => E = .returned (.tuple #[.int .i64 a, .int .i64 0]) ∧ Below W.heap.size W w')) (a0 : 0 ≤ a) (a1 : a ≤ e) (e1 : e < 1099511627776) (g1 : decide (a < 0) = false) (g2 : decide (e < a) = false) (hl : decide (0 < l) = false) (m b : Int) (CC : Hid (∀ W, Calls Try.prog 7 #[.agg #[.int .i64 l, .int .i64 e, .int .i64 n], .int .i64 s] W fun E w' => E = .returned (.tuple #[.agg #[.int .i64 m, .int .i64 e, .int .i64 n], .int .i64 0]) ∧ Below W.heap.size W w')) (CL2 : Hid (∀ W, Calls Try.prog 13 #[.agg #[.int .i64 q, .int .i64 d, .int .i64 t], .agg #[.int .i64 m, .int .i64 e, .int .i64 n]] W fun E w' => E = .returned (.tuple #[.int .i64 b, .int .i64 0]) ∧ Below W.heap.size W w')) (g6 : decide (a ≤ b) = true) (CM : Hid (∀ W, Calls Try.prog 16 #[.agg #[.int .i64 q, .int .i64 d, .int .i64 t]] W fun E w' => E = .returned (.bool true) ∧ Below W.heap.size W w')) (cA : AwC6) (w : World) :
    Calls Try.prog 5 #[.agg #[.int .i64 q, .int .i64 d, .int .i64 t], .agg #[.int .i64 l, .int .i64 e, .int .i64 n], .int .i64 s] w fun E w' => E = .returned (.bool true) ∧ Below w.heap.size w w' := by
  obtain ⟨W, hW⟩ : ∃ W, (w.alloc (.cells #[.int .i64 q, .int .i64 d, .int .i64 t] 23)).alloc (.cells #[.int .i64 l, .int .i64 e, .int .i64 n] 25) = W := ⟨_, rfl⟩
  have S0 := Lib.hid (hW ▸ Two3.start w 23 25 q d t l e n)
  have CP : ∀ q : LiesB W, Hid _ := fun q => Lib.hid (lies_call (fun W => plain_any l e n W) q)
  have CW : ∀ q : LiesB W, Hid _ := fun q' => Lib.hid (lies_call (fun W => rwrong_any 0 q d t l e n W) q')
  rw [hO] at CW
  clear hO

  have f0 := fun q => (S0.out.lies q).1.1
  have f1 := fun q => (S0.out.lies q).1.2.1
  have f2 := fun q => (S0.out.lies q).1.2.2
  have f3 := fun q => (S0.out.lies q).2.1
  have f4 := fun q => (S0.out.lies q).2.2.1
  have f5 := fun q => (S0.out.lies q).2.2.2
  haveI hin : Inhabited (LiesB W) := ⟨⟨W, Below.refl _ _⟩⟩
  go_enter Try.func5, Try.ntmps5
  go_wp2_with fail
  refine region_lies mixedT (by kernel_rfl) ?_
  repeat (quiet_step (first | (go_at_call 9; (with_reducible exact (CP _).out)) | (go_at_call 10; (with_reducible exact (CW _).out))))
  refine wpQuiet_nil ?_
  rintro _ ⟨q2, rfl⟩
  have S1 := Lib.hid (S0.out.next q2.h)
  clear f0 f1 f2 f3 f4 f5 CP CW
  obtain ⟨p0, p1, p2⟩ := S1.out.2.1.cells
  obtain ⟨r0, r1, r2⟩ := S1.out.2.2.cells
  go_wp2_with fail
  refine (Hid.out CL _).mono ?_
  rintro E w1 ⟨rfl, b1⟩
  have S2 := Lib.hid (S1.out.next b1)
  clear p0 p1 p2 r0 r1 r2
  obtain ⟨p0, p1, p2⟩ := S2.out.2.1.cells
  obtain ⟨r0, r1, r2⟩ := S2.out.2.2.cells
  go_wp2_with fail
  refine (Hid.out CC _).mono ?_
  rintro E w2 ⟨rfl, b2⟩
  have S3 := Lib.hid (S2.out.next b2)
  have lt1 := S3.out.2.1.lt
  have lt2 := S3.out.2.2.lt
  clear p0 p1 p2 r0 r1 r2
  obtain ⟨p0, p1, p2⟩ := S3.out.2.1.cells
  obtain ⟨r0, r1, r2⟩ := S3.out.2.2.cells
  go_wp2_with fail
  refine (Hid.out CL2 _).mono ?_
  rintro E w3 ⟨rfl, b3⟩
  have H4 := Lib.hid ((S3.out.1.alloc S3.out.1.size (.cells #[.int .i64 m, .int .i64 e, .int .i64 n] 25)).trans (b3.mono (by have := S3.out.1.size; simp; omega)))
  have P4 := Lib.hid ((S3.out.2.1.alloc _).next b3)
  clear p0 p1 p2 r0 r1 r2
  obtain ⟨p0, p1, p2⟩ := P4.out.cells
  go_wp2_with fail
  refine (Hid.out CM _).mono ?_
  rintro E w4 ⟨rfl, b4⟩
  have H5 := Lib.hid (H4.out.trans (b4.mono H4.out.size))
  go_wp2_with fail
  refine (Hid.out cA _).mono ?_
  rintro E w5 ⟨rfl, b5⟩
  go_wp2
  go_ret
  exact ⟨rfl, H5.out.trans (b5.mono H5.out.size)⟩

set_option maxHeartbeats 1000000 in
set_option maxRecDepth 20000 in
theorem lags_bad_zero (q d t l e n s : Int) (hO : allE 0 q d t l e n = 0) (s0 : decide (s < 0) = false) (s1 : decide (1073741824 < s) = false) (a : Int) (CL : Hid (∀ W, Calls Try.prog 13 #[.agg #[.int .i64 q, .int .i64 d, .int .i64 t], .agg #[.int .i64 l, .int .i64 e, .int .i64 n]] W fun E w' => E = .returned (.tuple #[.int .i64 a, .int .i64 0]) ∧ Below W.heap.size W w')) (a0 : 0 ≤ a) (a1 : a ≤ e) (e1 : e < 1099511627776) (g1 : decide (a < 0) = false) (g2 : decide (e < a) = false) (q0 : 1 ≤ q) (q1 : q ≤ 1073741824) (t0 : 1 ≤ t) (t1 : t ≤ 1073741824) (l0 : 1 ≤ l) (l1 : l ≤ 1073741824) (m0 : 0 ≤ (e - a) * q) (m1 : (e - a) * q ≤ 1152921504606846976) (m2 : 0 ≤ l * t) (m3 : l * t ≤ 1152921504606846976) (hl : decide (0 < l) = true) (g3 : decide (l * t < (e - a) * q) = false) (g4 : decide (0 < a) = false) (CC : Hid (∀ W, Calls Try.prog 7 #[.agg #[.int .i64 l, .int .i64 e, .int .i64 n], .int .i64 s] W fun E w' => E = .returned (.tuple #[.agg #[.int .i64 0, .int .i64 0, .int .i64 0], .int .i64 10]) ∧ Below W.heap.size W w')) (cA : AwC6) (w : World) :
    Calls Try.prog 5 #[.agg #[.int .i64 q, .int .i64 d, .int .i64 t], .agg #[.int .i64 l, .int .i64 e, .int .i64 n], .int .i64 s] w fun E w' => E = .returned (.bool true) ∧ Below w.heap.size w w' := by
  obtain ⟨W, hW⟩ : ∃ W, (w.alloc (.cells #[.int .i64 q, .int .i64 d, .int .i64 t] 23)).alloc (.cells #[.int .i64 l, .int .i64 e, .int .i64 n] 25) = W := ⟨_, rfl⟩
  have S0 := Lib.hid (hW ▸ Two3.start w 23 25 q d t l e n)
  have CP : ∀ q : LiesB W, Hid _ := fun q => Lib.hid (lies_call (fun W => plain_any l e n W) q)
  have CW : ∀ q : LiesB W, Hid _ := fun q' => Lib.hid (lies_call (fun W => rwrong_any 0 q d t l e n W) q')
  rw [hO] at CW
  clear hO

  have f0 := fun q => (S0.out.lies q).1.1
  have f1 := fun q => (S0.out.lies q).1.2.1
  have f2 := fun q => (S0.out.lies q).1.2.2
  have f3 := fun q => (S0.out.lies q).2.1
  have f4 := fun q => (S0.out.lies q).2.2.1
  have f5 := fun q => (S0.out.lies q).2.2.2
  haveI hin : Inhabited (LiesB W) := ⟨⟨W, Below.refl _ _⟩⟩
  go_enter Try.func5, Try.ntmps5
  go_wp2_with fail
  refine region_lies mixedT (by kernel_rfl) ?_
  repeat (quiet_step (first | (go_at_call 9; (with_reducible exact (CP _).out)) | (go_at_call 10; (with_reducible exact (CW _).out))))
  refine wpQuiet_nil ?_
  rintro _ ⟨q2, rfl⟩
  have S1 := Lib.hid (S0.out.next q2.h)
  clear f0 f1 f2 f3 f4 f5 CP CW
  obtain ⟨p0, p1, p2⟩ := S1.out.2.1.cells
  obtain ⟨r0, r1, r2⟩ := S1.out.2.2.cells
  go_wp2_with fail
  refine (Hid.out CL _).mono ?_
  rintro E w1 ⟨rfl, b1⟩
  have S2 := Lib.hid (S1.out.next b1)
  clear p0 p1 p2 r0 r1 r2
  obtain ⟨p0, p1, p2⟩ := S2.out.2.1.cells
  obtain ⟨r0, r1, r2⟩ := S2.out.2.2.cells
  go_wp2_with fail
  refine (Hid.out CC _).mono ?_
  rintro E w2 ⟨rfl, b2⟩
  have S3 := Lib.hid (S2.out.next b2)
  have lt1 := S3.out.2.1.lt
  have lt2 := S3.out.2.2.lt
  clear p0 p1 p2 r0 r1 r2
  obtain ⟨p0, p1, p2⟩ := S3.out.2.1.cells
  obtain ⟨r0, r1, r2⟩ := S3.out.2.2.cells
  go_wp2_with fail
  refine (Hid.out cA _).mono ?_
  rintro E w3 ⟨rfl, b3⟩
  go_wp2
  go_ret
  exact ⟨rfl, (S3.out.1.alloc S3.out.1.size _).trans (b3.mono (by have := S3.out.1.size; simp; omega))⟩

set_option maxHeartbeats 1000000 in
set_option maxRecDepth 20000 in
theorem lags_ok_zero (q d t l e n s : Int) (hO : allE 0 q d t l e n = 0) (s0 : decide (s < 0) = false) (s1 : decide (1073741824 < s) = false) (a : Int) (CL : Hid (∀ W, Calls Try.prog 13 #[.agg #[.int .i64 q, .int .i64 d, .int .i64 t], .agg #[.int .i64 l, .int .i64 e, .int .i64 n]] W fun E w' => E = .returned (.tuple #[.int .i64 a, .int .i64 0]) ∧ Below W.heap.size W w')) (a0 : 0 ≤ a) (a1 : a ≤ e) (e1 : e < 1099511627776) (g1 : decide (a < 0) = false) (g2 : decide (e < a) = false) (q0 : 1 ≤ q) (q1 : q ≤ 1073741824) (t0 : 1 ≤ t) (t1 : t ≤ 1073741824) (l0 : 1 ≤ l) (l1 : l ≤ 1073741824) (m0 : 0 ≤ (e - a) * q) (m1 : (e - a) * q ≤ 1152921504606846976) (m2 : 0 ≤ l * t) (m3 : l * t ≤ 1152921504606846976) (hl : decide (0 < l) = true) (g3 : decide (l * t < (e - a) * q) = false) (g4 : decide (0 < a) = false) (m b : Int) (CC : Hid (∀ W, Calls Try.prog 7 #[.agg #[.int .i64 l, .int .i64 e, .int .i64 n], .int .i64 s] W fun E w' => E = .returned (.tuple #[.agg #[.int .i64 m, .int .i64 e, .int .i64 n], .int .i64 0]) ∧ Below W.heap.size W w')) (CL2 : Hid (∀ W, Calls Try.prog 13 #[.agg #[.int .i64 q, .int .i64 d, .int .i64 t], .agg #[.int .i64 m, .int .i64 e, .int .i64 n]] W fun E w' => E = .returned (.tuple #[.int .i64 b, .int .i64 0]) ∧ Below W.heap.size W w')) (g6 : decide (a ≤ b) = true) (CM : Hid (∀ W, Calls Try.prog 16 #[.agg #[.int .i64 q, .int .i64 d, .int .i64 t]] W fun E w' => E = .returned (.bool true) ∧ Below W.heap.size W w')) (cA : AwC6) (w : World) :
    Calls Try.prog 5 #[.agg #[.int .i64 q, .int .i64 d, .int .i64 t], .agg #[.int .i64 l, .int .i64 e, .int .i64 n], .int .i64 s] w fun E w' => E = .returned (.bool true) ∧ Below w.heap.size w w' := by
  obtain ⟨W, hW⟩ : ∃ W, (w.alloc (.cells #[.int .i64 q, .int .i64 d, .int .i64 t] 23)).alloc (.cells #[.int .i64 l, .int .i64 e, .int .i64 n] 25) = W := ⟨_, rfl⟩
  have S0 := Lib.hid (hW ▸ Two3.start w 23 25 q d t l e n)
  have CP : ∀ q : LiesB W, Hid _ := fun q => Lib.hid (lies_call (fun W => plain_any l e n W) q)
  have CW : ∀ q : LiesB W, Hid _ := fun q' => Lib.hid (lies_call (fun W => rwrong_any 0 q d t l e n W) q')
  rw [hO] at CW
  clear hO

  have f0 := fun q => (S0.out.lies q).1.1
  have f1 := fun q => (S0.out.lies q).1.2.1
  have f2 := fun q => (S0.out.lies q).1.2.2
  have f3 := fun q => (S0.out.lies q).2.1
  have f4 := fun q => (S0.out.lies q).2.2.1
  have f5 := fun q => (S0.out.lies q).2.2.2
  haveI hin : Inhabited (LiesB W) := ⟨⟨W, Below.refl _ _⟩⟩
  go_enter Try.func5, Try.ntmps5
  go_wp2_with fail
  refine region_lies mixedT (by kernel_rfl) ?_
  repeat (quiet_step (first | (go_at_call 9; (with_reducible exact (CP _).out)) | (go_at_call 10; (with_reducible exact (CW _).out))))
  refine wpQuiet_nil ?_
  rintro _ ⟨q2, rfl⟩
  have S1 := Lib.hid (S0.out.next q2.h)
  clear f0 f1 f2 f3 f4 f5 CP CW
  obtain ⟨p0, p1, p2⟩ := S1.out.2.1.cells
  obtain ⟨r0, r1, r2⟩ := S1.out.2.2.cells
  go_wp2_with fail
  refine (Hid.out CL _).mono ?_
  rintro E w1 ⟨rfl, b1⟩
  have S2 := Lib.hid (S1.out.next b1)
  clear p0 p1 p2 r0 r1 r2
  obtain ⟨p0, p1, p2⟩ := S2.out.2.1.cells
  obtain ⟨r0, r1, r2⟩ := S2.out.2.2.cells
  go_wp2_with fail
  refine (Hid.out CC _).mono ?_
  rintro E w2 ⟨rfl, b2⟩
  have S3 := Lib.hid (S2.out.next b2)
  have lt1 := S3.out.2.1.lt
  have lt2 := S3.out.2.2.lt
  clear p0 p1 p2 r0 r1 r2
  obtain ⟨p0, p1, p2⟩ := S3.out.2.1.cells
  obtain ⟨r0, r1, r2⟩ := S3.out.2.2.cells
  go_wp2_with fail
  refine (Hid.out CL2 _).mono ?_
  rintro E w3 ⟨rfl, b3⟩
  have H4 := Lib.hid ((S3.out.1.alloc S3.out.1.size (.cells #[.int .i64 m, .int .i64 e, .int .i64 n] 25)).trans (b3.mono (by have := S3.out.1.size; simp; omega)))
  have P4 := Lib.hid ((S3.out.2.1.alloc _).next b3)
  clear p0 p1 p2 r0 r1 r2
  obtain ⟨p0, p1, p2⟩ := P4.out.cells
  go_wp2_with fail
  refine (Hid.out CM _).mono ?_
  rintro E w4 ⟨rfl, b4⟩
  have H5 := Lib.hid (H4.out.trans (b4.mono H4.out.size))
  go_wp2_with fail
  refine (Hid.out cA _).mono ?_
  rintro E w5 ⟨rfl, b5⟩
  go_wp2
  go_ret
  exact ⟨rfl, H5.out.trans (b5.mono H5.out.size)⟩

set_option maxHeartbeats 1000000 in
set_option maxRecDepth 20000 in
theorem lags_bad_some (q d t l e n s : Int) (hO : allE 0 q d t l e n = 0) (s0 : decide (s < 0) = false) (s1 : decide (1073741824 < s) = false) (a : Int) (CL : Hid (∀ W, Calls Try.prog 13 #[.agg #[.int .i64 q, .int .i64 d, .int .i64 t], .agg #[.int .i64 l, .int .i64 e, .int .i64 n]] W fun E w' => E = .returned (.tuple #[.int .i64 a, .int .i64 0]) ∧ Below W.heap.size W w')) (a0 : 0 ≤ a) (a1 : a ≤ e) (e1 : e < 1099511627776) (g1 : decide (a < 0) = false) (g2 : decide (e < a) = false) (q0 : 1 ≤ q) (q1 : q ≤ 1073741824) (t0 : 1 ≤ t) (t1 : t ≤ 1073741824) (l0 : 1 ≤ l) (l1 : l ≤ 1073741824) (m0 : 0 ≤ (e - a) * q) (m1 : (e - a) * q ≤ 1152921504606846976) (m2 : 0 ≤ l * t) (m3 : l * t ≤ 1152921504606846976) (hl : decide (0 < l) = true) (g3 : decide (l * t < (e - a) * q) = false) (m4 : 0 ≤ (e - a + 1) * q) (m5 : (e - a + 1) * q ≤ 2305843009213693952) (g4 : decide (0 < a) = true) (g5 : decide ((e - a + 1) * q ≤ l * t) = false) (CC : Hid (∀ W, Calls Try.prog 7 #[.agg #[.int .i64 l, .int .i64 e, .int .i64 n], .int .i64 s] W fun E w' => E = .returned (.tuple #[.agg #[.int .i64 0, .int .i64 0, .int .i64 0], .int .i64 10]) ∧ Below W.heap.size W w')) (cA : AwC6) (w : World) :
    Calls Try.prog 5 #[.agg #[.int .i64 q, .int .i64 d, .int .i64 t], .agg #[.int .i64 l, .int .i64 e, .int .i64 n], .int .i64 s] w fun E w' => E = .returned (.bool true) ∧ Below w.heap.size w w' := by
  obtain ⟨W, hW⟩ : ∃ W, (w.alloc (.cells #[.int .i64 q, .int .i64 d, .int .i64 t] 23)).alloc (.cells #[.int .i64 l, .int .i64 e, .int .i64 n] 25) = W := ⟨_, rfl⟩
  have S0 := Lib.hid (hW ▸ Two3.start w 23 25 q d t l e n)
  have CP : ∀ q : LiesB W, Hid _ := fun q => Lib.hid (lies_call (fun W => plain_any l e n W) q)
  have CW : ∀ q : LiesB W, Hid _ := fun q' => Lib.hid (lies_call (fun W => rwrong_any 0 q d t l e n W) q')
  rw [hO] at CW
  clear hO

  have f0 := fun q => (S0.out.lies q).1.1
  have f1 := fun q => (S0.out.lies q).1.2.1
  have f2 := fun q => (S0.out.lies q).1.2.2
  have f3 := fun q => (S0.out.lies q).2.1
  have f4 := fun q => (S0.out.lies q).2.2.1
  have f5 := fun q => (S0.out.lies q).2.2.2
  haveI hin : Inhabited (LiesB W) := ⟨⟨W, Below.refl _ _⟩⟩
  go_enter Try.func5, Try.ntmps5
  go_wp2_with fail
  refine region_lies mixedT (by kernel_rfl) ?_
  repeat (quiet_step (first | (go_at_call 9; (with_reducible exact (CP _).out)) | (go_at_call 10; (with_reducible exact (CW _).out))))
  refine wpQuiet_nil ?_
  rintro _ ⟨q2, rfl⟩
  have S1 := Lib.hid (S0.out.next q2.h)
  clear f0 f1 f2 f3 f4 f5 CP CW
  obtain ⟨p0, p1, p2⟩ := S1.out.2.1.cells
  obtain ⟨r0, r1, r2⟩ := S1.out.2.2.cells
  go_wp2_with fail
  refine (Hid.out CL _).mono ?_
  rintro E w1 ⟨rfl, b1⟩
  have S2 := Lib.hid (S1.out.next b1)
  clear p0 p1 p2 r0 r1 r2
  obtain ⟨p0, p1, p2⟩ := S2.out.2.1.cells
  obtain ⟨r0, r1, r2⟩ := S2.out.2.2.cells
  go_wp2_with fail
  refine (Hid.out CC _).mono ?_
  rintro E w2 ⟨rfl, b2⟩
  have S3 := Lib.hid (S2.out.next b2)
  have lt1 := S3.out.2.1.lt
  have lt2 := S3.out.2.2.lt
  clear p0 p1 p2 r0 r1 r2
  obtain ⟨p0, p1, p2⟩ := S3.out.2.1.cells
  obtain ⟨r0, r1, r2⟩ := S3.out.2.2.cells
  go_wp2_with fail
  refine (Hid.out cA _).mono ?_
  rintro E w3 ⟨rfl, b3⟩
  go_wp2
  go_ret
  exact ⟨rfl, (S3.out.1.alloc S3.out.1.size _).trans (b3.mono (by have := S3.out.1.size; simp; omega))⟩

set_option maxHeartbeats 1000000 in
set_option maxRecDepth 20000 in
theorem lags_ok_some (q d t l e n s : Int) (hO : allE 0 q d t l e n = 0) (s0 : decide (s < 0) = false) (s1 : decide (1073741824 < s) = false) (a : Int) (CL : Hid (∀ W, Calls Try.prog 13 #[.agg #[.int .i64 q, .int .i64 d, .int .i64 t], .agg #[.int .i64 l, .int .i64 e, .int .i64 n]] W fun E w' => E = .returned (.tuple #[.int .i64 a, .int .i64 0]) ∧ Below W.heap.size W w')) (a0 : 0 ≤ a) (a1 : a ≤ e) (e1 : e < 1099511627776) (g1 : decide (a < 0) = false) (g2 : decide (e < a) = false) (q0 : 1 ≤ q) (q1 : q ≤ 1073741824) (t0 : 1 ≤ t) (t1 : t ≤ 1073741824) (l0 : 1 ≤ l) (l1 : l ≤ 1073741824) (m0 : 0 ≤ (e - a) * q) (m1 : (e - a) * q ≤ 1152921504606846976) (m2 : 0 ≤ l * t) (m3 : l * t ≤ 1152921504606846976) (hl : decide (0 < l) = true) (g3 : decide (l * t < (e - a) * q) = false) (m4 : 0 ≤ (e - a + 1) * q) (m5 : (e - a + 1) * q ≤ 2305843009213693952) (g4 : decide (0 < a) = true) (g5 : decide ((e - a + 1) * q ≤ l * t) = false) (m b : Int) (CC : Hid (∀ W, Calls Try.prog 7 #[.agg #[.int .i64 l, .int .i64 e, .int .i64 n], .int .i64 s] W fun E w' => E = .returned (.tuple #[.agg #[.int .i64 m, .int .i64 e, .int .i64 n], .int .i64 0]) ∧ Below W.heap.size W w')) (CL2 : Hid (∀ W, Calls Try.prog 13 #[.agg #[.int .i64 q, .int .i64 d, .int .i64 t], .agg #[.int .i64 m, .int .i64 e, .int .i64 n]] W fun E w' => E = .returned (.tuple #[.int .i64 b, .int .i64 0]) ∧ Below W.heap.size W w')) (g6 : decide (a ≤ b) = true) (CM : Hid (∀ W, Calls Try.prog 16 #[.agg #[.int .i64 q, .int .i64 d, .int .i64 t]] W fun E w' => E = .returned (.bool true) ∧ Below W.heap.size W w')) (cA : AwC6) (w : World) :
    Calls Try.prog 5 #[.agg #[.int .i64 q, .int .i64 d, .int .i64 t], .agg #[.int .i64 l, .int .i64 e, .int .i64 n], .int .i64 s] w fun E w' => E = .returned (.bool true) ∧ Below w.heap.size w w' := by
  obtain ⟨W, hW⟩ : ∃ W, (w.alloc (.cells #[.int .i64 q, .int .i64 d, .int .i64 t] 23)).alloc (.cells #[.int .i64 l, .int .i64 e, .int .i64 n] 25) = W := ⟨_, rfl⟩
  have S0 := Lib.hid (hW ▸ Two3.start w 23 25 q d t l e n)
  have CP : ∀ q : LiesB W, Hid _ := fun q => Lib.hid (lies_call (fun W => plain_any l e n W) q)
  have CW : ∀ q : LiesB W, Hid _ := fun q' => Lib.hid (lies_call (fun W => rwrong_any 0 q d t l e n W) q')
  rw [hO] at CW
  clear hO

  have f0 := fun q => (S0.out.lies q).1.1
  have f1 := fun q => (S0.out.lies q).1.2.1
  have f2 := fun q => (S0.out.lies q).1.2.2
  have f3 := fun q => (S0.out.lies q).2.1
  have f4 := fun q => (S0.out.lies q).2.2.1
  have f5 := fun q => (S0.out.lies q).2.2.2
  haveI hin : Inhabited (LiesB W) := ⟨⟨W, Below.refl _ _⟩⟩
  go_enter Try.func5, Try.ntmps5
  go_wp2_with fail
  refine region_lies mixedT (by kernel_rfl) ?_
  repeat (quiet_step (first | (go_at_call 9; (with_reducible exact (CP _).out)) | (go_at_call 10; (with_reducible exact (CW _).out))))
  refine wpQuiet_nil ?_
  rintro _ ⟨q2, rfl⟩
  have S1 := Lib.hid (S0.out.next q2.h)
  clear f0 f1 f2 f3 f4 f5 CP CW
  obtain ⟨p0, p1, p2⟩ := S1.out.2.1.cells
  obtain ⟨r0, r1, r2⟩ := S1.out.2.2.cells
  go_wp2_with fail
  refine (Hid.out CL _).mono ?_
  rintro E w1 ⟨rfl, b1⟩
  have S2 := Lib.hid (S1.out.next b1)
  clear p0 p1 p2 r0 r1 r2
  obtain ⟨p0, p1, p2⟩ := S2.out.2.1.cells
  obtain ⟨r0, r1, r2⟩ := S2.out.2.2.cells
  go_wp2_with fail
  refine (Hid.out CC _).mono ?_
  rintro E w2 ⟨rfl, b2⟩
  have S3 := Lib.hid (S2.out.next b2)
  have lt1 := S3.out.2.1.lt
  have lt2 := S3.out.2.2.lt
  clear p0 p1 p2 r0 r1 r2
  obtain ⟨p0, p1, p2⟩ := S3.out.2.1.cells
  obtain ⟨r0, r1, r2⟩ := S3.out.2.2.cells
  go_wp2_with fail
  refine (Hid.out CL2 _).mono ?_
  rintro E w3 ⟨rfl, b3⟩
  have H4 := Lib.hid ((S3.out.1.alloc S3.out.1.size (.cells #[.int .i64 m, .int .i64 e, .int .i64 n] 25)).trans (b3.mono (by have := S3.out.1.size; simp; omega)))
  have P4 := Lib.hid ((S3.out.2.1.alloc _).next b3)
  clear p0 p1 p2 r0 r1 r2
  obtain ⟨p0, p1, p2⟩ := P4.out.cells
  go_wp2_with fail
  refine (Hid.out CM _).mono ?_
  rintro E w4 ⟨rfl, b4⟩
  have H5 := Lib.hid (H4.out.trans (b4.mono H4.out.size))
  go_wp2_with fail
  refine (Hid.out cA _).mono ?_
  rintro E w5 ⟨rfl, b5⟩
  go_wp2
  go_ret
  exact ⟨rfl, H5.out.trans (b5.mono H5.out.size)⟩
end Go.Proofs.YtbkdfbddcfglgaaRRR
