/-
  The walk of CbsSpends, in parts (1).
-/
import Derived.Test.YtbkdfbddcfglgaaRRRLawSp0
namespace Go.Proofs.YtbkdfbddcfglgaaRRR
open Go.RowKit
set_option linter.unusedVariables false
set_option linter.unusedSimpArgs false


set_option maxHeartbeats 4000000 in
set_option maxRecDepth 20000 in
theorem spends_n_1h (now q d t l e n : Int) (x : Int) (g1 : (x == 0) = false) (g2 : (x != 0) = true) (CC : Hid (∀ W, Calls Try.prog 7 #[.agg #[.int .i64 l, .int .i64 e, .int .i64 n], .int .i64 now] W fun E w' => E = .returned (.tuple #[.agg #[.int .i64 0, .int .i64 0, .int .i64 0], .int .i64 x]) ∧ Below W.heap.size W w')) (CK : Hid (∀ W, Calls Try.prog 8 #[.agg #[.int .i64 l, .int .i64 e, .int .i64 n]] W fun E w' => E = .returned (.int .i64 x) ∧ Below W.heap.size W w')) (CP : Hid (∀ W, Calls Try.prog 9 #[.agg #[.int .i64 l, .int .i64 e, .int .i64 n]] W fun E w' => E = .returned (.agg #[.int .i64 l, .int .i64 e, .int .i64 n]) ∧ Below W.heap.size W w')) (z : Int) (gz : (z != 0) = true) (CW : Hid (∀ W, Calls Try.prog 10 #[.int .i64 now, .agg #[.int .i64 q, .int .i64 d, .int .i64 t], .agg #[.int .i64 l, .int .i64 e, .int .i64 n]] W fun E w' => E = .returned (.int .i64 z) ∧ Below W.heap.size W w')) (CR : Hid (∀ W, Calls Try.prog 11 #[.int .i64 now, .agg #[.int .i64 q, .int .i64 d, .int .i64 t], .agg #[.int .i64 l, .int .i64 e, .int .i64 n]] W fun E w' => E = .returned (.tuple #[.agg #[.int .i64 0, .int .i64 0, .int .i64 0], .int .i64 z]) ∧ Below W.heap.size W w')) (h : Int) (gh : (h != 0) = true) (CL : Hid (∀ W, Calls Try.prog 13 #[.agg #[.int .i64 q, .int .i64 d, .int .i64 t], .agg #[.int .i64 l, .int .i64 e, .int .i64 n]] W fun E w' => E = .returned (.tuple #[.int .i64 0, .int .i64 h]) ∧ Below W.heap.size W w')) (CW0 : Hid (∀ W, Calls Try.prog 10 #[.int .i64 0, .agg #[.int .i64 q, .int .i64 d, .int .i64 t], .agg #[.int .i64 l, .int .i64 e, .int .i64 n]] W fun E w' => E = .returned (.int .i64 h) ∧ Below W.heap.size W w')) (cA : AwC6) (w : World) :
    Calls Try.prog 3 #[.int .i64 now, .agg #[.int .i64 q, .int .i64 d, .int .i64 t], .agg #[.int .i64 l, .int .i64 e, .int .i64 n]] w fun E w' => E = .returned (.bool true) ∧ Below w.heap.size w w' := by
  have S0 := Lib.hid (Two3.start w 23 25 q d t l e n)
  have CA2 : Hid (∀ W, Calls Try.prog 14 #[] W fun E w' => E = .returned (.bool true) ∧ Below W.heap.size W w') := cA
  go_enter Try.func3, Try.ntmps3
  go_wp2_with fail
  refine (Hid.out CC _).mono ?_
  rintro E w1 ⟨rfl, b1⟩
  have S1 := Lib.hid (S0.out.next b1)
  have A1 := Lib.hid (B3.start w1 25 0 0 0)
  obtain ⟨r0, r1', r2'⟩ := S1.out.2.2.cells
  have lt1 := S1.out.2.2.lt
  go_wp2_with fail
  refine (Hid.out CP _).mono ?_
  rintro E w2 ⟨rfl, b2⟩
  go_wp2_with fail
  refine (Hid.out CK _).mono ?_
  rintro E w3 ⟨rfl, b3⟩
  have S3 := Lib.hid (((S1.out.alloc _).next b2).next b3)
  have A3 := Lib.hid ((A1.out.next b2).next b3)
  clear r0 r1' r2' lt1
  obtain ⟨r0, r1', r2'⟩ := S3.out.2.2.cells
  obtain ⟨o0, o1, o2⟩ := A3.out.cells
  go_wp2_with fail
  clear r0 r1' r2' o0 o1 o2 A3 A1 S1 S0
  have f0 := fun q => (S3.out.lies q).1.1
  have f1 := fun q => (S3.out.lies q).1.2.1
  have f2 := fun q => (S3.out.lies q).1.2.2
  have f3 := fun q => (S3.out.lies q).2.1
  have f4 := fun q => (S3.out.lies q).2.2.1
  have f5 := fun q => (S3.out.lies q).2.2.2
  haveI hin : Inhabited (LiesB w3) := ⟨⟨w3, Below.refl _ _⟩⟩
  refine region_lies mixedT (by kernel_rfl) ?_
  repeat (quiet_step (first | (go_at_call 9; (with_reducible exact lies_call CP.out _)) | (go_at_call 10; (with_reducible exact lies_call CW.out _))))
  refine wpQuiet_nil ?_
  rintro _ ⟨q4, rfl⟩
  clear f0 f1 f2 f3 f4 f5
  have S4 := Lib.hid (S3.out.next q4.h)
  obtain ⟨p0, p1, p2⟩ := S4.out.2.1.cells
  obtain ⟨r0, r1', r2'⟩ := S4.out.2.2.cells
  go_wp2_with fail
  refine (Hid.out CR _).mono ?_
  rintro E w5 ⟨rfl, b5⟩
  have S5 := Lib.hid ((S4.out.next b5).alloc (.cells #[.int .i64 0, .int .i64 0, .int .i64 0] 25))
  have R5 := Lib.hid (B3.start w5 25 0 0 0)
  have lt2 := (S4.out.next b5).2.1.lt
  have lt3 := (S4.out.next b5).2.2.lt
  clear p0 p1 p2 r0 r1' r2'
  obtain ⟨p0, p1, p2⟩ := (S4.out.next b5).2.1.cells
  obtain ⟨r0, r1', r2'⟩ := (S4.out.next b5).2.2.cells
  go_wp2_with fail
  refine (Hid.out CL _).mono ?_
  rintro E w6 ⟨rfl, b6⟩
  have S6 := Lib.hid (S5.out.next b6)
  clear p0 p1 p2 r0 r1' r2' lt2 lt3
  obtain ⟨p0, p1, p2⟩ := S6.out.2.1.cells
  obtain ⟨r0, r1', r2'⟩ := S6.out.2.2.cells
  go_wp2_with fail
  clear p0 p1 p2 r0 r1' r2'
  have f0 := fun q => (S6.out.lies q).1.1
  have f1 := fun q => (S6.out.lies q).1.2.1
  have f2 := fun q => (S6.out.lies q).1.2.2
  have f3 := fun q => (S6.out.lies q).2.1
  have f4 := fun q => (S6.out.lies q).2.2.1
  have f5 := fun q => (S6.out.lies q).2.2.2
  haveI hin : Inhabited (LiesB w6) := ⟨⟨w6, Below.refl _ _⟩⟩
  refine region_lies mixedT (by kernel_rfl) ?_
  repeat (quiet_step (first | (go_at_call 9; (with_reducible exact lies_call CP.out _)) | (go_at_call 10; (with_reducible exact lies_call CW0.out _))))
  refine wpQuiet_nil ?_
  rintro _ ⟨q7, rfl⟩
  clear f0 f1 f2 f3 f4 f5
  have S7 := Lib.hid (S6.out.next q7.h)
  go_wp2_with fail
  refine (Hid.out cA _).mono ?_
  rintro E w8 ⟨rfl, b8⟩
  go_wp2
  go_ret
  exact ⟨rfl, (S7.out.next b8).1⟩

set_option maxHeartbeats 4000000 in
set_option maxRecDepth 20000 in
theorem spends_a_1h (now q d t l e n : Int) (g1 : decide (now < 0) = true) (CC : Hid (∀ W, Calls Try.prog 7 #[.agg #[.int .i64 l, .int .i64 e, .int .i64 n], .int .i64 now] W fun E w' => E = .returned (.tuple #[.agg #[.int .i64 0, .int .i64 0, .int .i64 0], .int .i64 10]) ∧ Below W.heap.size W w')) (CK : Hid (∀ W, Calls Try.prog 8 #[.agg #[.int .i64 l, .int .i64 e, .int .i64 n]] W fun E w' => E = .returned (.int .i64 0) ∧ Below W.heap.size W w')) (CP : Hid (∀ W, Calls Try.prog 9 #[.agg #[.int .i64 l, .int .i64 e, .int .i64 n]] W fun E w' => E = .returned (.agg #[.int .i64 l, .int .i64 e, .int .i64 n]) ∧ Below W.heap.size W w')) (z : Int) (gz : (z != 0) = true) (CW : Hid (∀ W, Calls Try.prog 10 #[.int .i64 now, .agg #[.int .i64 q, .int .i64 d, .int .i64 t], .agg #[.int .i64 l, .int .i64 e, .int .i64 n]] W fun E w' => E = .returned (.int .i64 z) ∧ Below W.heap.size W w')) (CR : Hid (∀ W, Calls Try.prog 11 #[.int .i64 now, .agg #[.int .i64 q, .int .i64 d, .int .i64 t], .agg #[.int .i64 l, .int .i64 e, .int .i64 n]] W fun E w' => E = .returned (.tuple #[.agg #[.int .i64 0, .int .i64 0, .int .i64 0], .int .i64 z]) ∧ Below W.heap.size W w')) (h : Int) (gh : (h != 0) = true) (CL : Hid (∀ W, Calls Try.prog 13 #[.agg #[.int .i64 q, .int .i64 d, .int .i64 t], .agg #[.int .i64 l, .int .i64 e, .int .i64 n]] W fun E w' => E = .returned (.tuple #[.int .i64 0, .int .i64 h]) ∧ Below W.heap.size W w')) (CW0 : Hid (∀ W, Calls Try.prog 10 #[.int .i64 0, .agg #[.int .i64 q, .int .i64 d, .int .i64 t], .agg #[.int .i64 l, .int .i64 e, .int .i64 n]] W fun E w' => E = .returned (.int .i64 h) ∧ Below W.heap.size W w')) (cA : AwC6) (w : World) :
    Calls Try.prog 3 #[.int .i64 now, .agg #[.int .i64 q, .int .i64 d, .int .i64 t], .agg #[.int .i64 l, .int .i64 e, .int .i64 n]] w fun E w' => E = .returned (.bool true) ∧ Below w.heap.size w w' := by
  have S0 := Lib.hid (Two3.start w 23 25 q d t l e n)
  have CA2 : Hid (∀ W, Calls Try.prog 14 #[] W fun E w' => E = .returned (.bool true) ∧ Below W.heap.size W w') := cA
  go_enter Try.func3, Try.ntmps3
  go_wp2_with fail
  refine (Hid.out CC _).mono ?_
  rintro E w1 ⟨rfl, b1⟩
  have S1 := Lib.hid (S0.out.next b1)
  have A1 := Lib.hid (B3.start w1 25 0 0 0)
  obtain ⟨r0, r1', r2'⟩ := S1.out.2.2.cells
  have lt1 := S1.out.2.2.lt
  go_wp2_with fail
  refine (Hid.out CP _).mono ?_
  rintro E w2 ⟨rfl, b2⟩
  go_wp2_with fail
  refine (Hid.out CK _).mono ?_
  rintro E w3 ⟨rfl, b3⟩
  have S3 := Lib.hid (((S1.out.alloc _).next b2).next b3)
  have A3 := Lib.hid ((A1.out.next b2).next b3)
  clear r0 r1' r2' lt1
  obtain ⟨r0, r1', r2'⟩ := S3.out.2.2.cells
  obtain ⟨o0, o1, o2⟩ := A3.out.cells
  go_wp2_with fail
  clear r0 r1' r2' o0 o1 o2 A3 A1 S1 S0
  have f0 := fun q => (S3.out.lies q).1.1
  have f1 := fun q => (S3.out.lies q).1.2.1
  have f2 := fun q => (S3.out.lies q).1.2.2
  have f3 := fun q => (S3.out.lies q).2.1
  have f4 := fun q => (S3.out.lies q).2.2.1
  have f5 := fun q => (S3.out.lies q).2.2.2
  haveI hin : Inhabited (LiesB w3) := ⟨⟨w3, Below.refl _ _⟩⟩
  refine region_lies mixedT (by kernel_rfl) ?_
  repeat (quiet_step (first | (go_at_call 9; (with_reducible exact lies_call CP.out _)) | (go_at_call 10; (with_reducible exact lies_call CW.out _))))
  refine wpQuiet_nil ?_
  rintro _ ⟨q4, rfl⟩
  clear f0 f1 f2 f3 f4 f5
  have S4 := Lib.hid (S3.out.next q4.h)
  obtain ⟨p0, p1, p2⟩ := S4.out.2.1.cells
  obtain ⟨r0, r1', r2'⟩ := S4.out.2.2.cells
  go_wp2_with fail
  refine (Hid.out CR _).mono ?_
  rintro E w5 ⟨rfl, b5⟩
  have S5 := Lib.hid ((S4.out.next b5).alloc (.cells #[.int .i64 0, .int .i64 0, .int .i64 0] 25))
  have R5 := Lib.hid (B3.start w5 25 0 0 0)
  have lt2 := (S4.out.next b5).2.1.lt
  have lt3 := (S4.out.next b5).2.2.lt
  clear p0 p1 p2 r0 r1' r2'
  obtain ⟨p0, p1, p2⟩ := (S4.out.next b5).2.1.cells
  obtain ⟨r0, r1', r2'⟩ := (S4.out.next b5).2.2.cells
  go_wp2_with fail
  refine (Hid.out CL _).mono ?_
  rintro E w6 ⟨rfl, b6⟩
  have S6 := Lib.hid (S5.out.next b6)
  clear p0 p1 p2 r0 r1' r2' lt2 lt3
  obtain ⟨p0, p1, p2⟩ := S6.out.2.1.cells
  obtain ⟨r0, r1', r2'⟩ := S6.out.2.2.cells
  go_wp2_with fail
  clear p0 p1 p2 r0 r1' r2'
  have f0 := fun q => (S6.out.lies q).1.1
  have f1 := fun q => (S6.out.lies q).1.2.1
  have f2 := fun q => (S6.out.lies q).1.2.2
  have f3 := fun q => (S6.out.lies q).2.1
  have f4 := fun q => (S6.out.lies q).2.2.1
  have f5 := fun q => (S6.out.lies q).2.2.2
  haveI hin : Inhabited (LiesB w6) := ⟨⟨w6, Below.refl _ _⟩⟩
  refine region_lies mixedT (by kernel_rfl) ?_
  repeat (quiet_step (first | (go_at_call 9; (with_reducible exact lies_call CP.out _)) | (go_at_call 10; (with_reducible exact lies_call CW0.out _))))
  refine wpQuiet_nil ?_
  rintro _ ⟨q7, rfl⟩
  clear f0 f1 f2 f3 f4 f5
  have S7 := Lib.hid (S6.out.next q7.h)
  go_wp2_with fail
  refine (Hid.out cA _).mono ?_
  rintro E w8 ⟨rfl, b8⟩
  go_wp2
  go_ret
  exact ⟨rfl, (S7.out.next b8).1⟩

set_option maxHeartbeats 4000000 in
set_option maxRecDepth 20000 in
theorem spends_b_1h (now q d t l e n : Int) (l0 : -1073741824 ≤ l) (l1 : l ≤ 1073741824) (g1 : decide (now < 0) = false) (g2 : decide (l + 1073741824 < now) = true) (CC : Hid (∀ W, Calls Try.prog 7 #[.agg #[.int .i64 l, .int .i64 e, .int .i64 n], .int .i64 now] W fun E w' => E = .returned (.tuple #[.agg #[.int .i64 0, .int .i64 0, .int .i64 0], .int .i64 10]) ∧ Below W.heap.size W w')) (CK : Hid (∀ W, Calls Try.prog 8 #[.agg #[.int .i64 l, .int .i64 e, .int .i64 n]] W fun E w' => E = .returned (.int .i64 0) ∧ Below W.heap.size W w')) (CP : Hid (∀ W, Calls Try.prog 9 #[.agg #[.int .i64 l, .int .i64 e, .int .i64 n]] W fun E w' => E = .returned (.agg #[.int .i64 l, .int .i64 e, .int .i64 n]) ∧ Below W.heap.size W w')) (z : Int) (gz : (z != 0) = true) (CW : Hid (∀ W, Calls Try.prog 10 #[.int .i64 now, .agg #[.int .i64 q, .int .i64 d, .int .i64 t], .agg #[.int .i64 l, .int .i64 e, .int .i64 n]] W fun E w' => E = .returned (.int .i64 z) ∧ Below W.heap.size W w')) (CR : Hid (∀ W, Calls Try.prog 11 #[.int .i64 now, .agg #[.int .i64 q, .int .i64 d, .int .i64 t], .agg #[.int .i64 l, .int .i64 e, .int .i64 n]] W fun E w' => E = .returned (.tuple #[.agg #[.int .i64 0, .int .i64 0, .int .i64 0], .int .i64 z]) ∧ Below W.heap.size W w')) (h : Int) (gh : (h != 0) = true) (CL : Hid (∀ W, Calls Try.prog 13 #[.agg #[.int .i64 q, .int .i64 d, .int .i64 t], .agg #[.int .i64 l, .int .i64 e, .int .i64 n]] W fun E w' => E = .returned (.tuple #[.int .i64 0, .int .i64 h]) ∧ Below W.heap.size W w')) (CW0 : Hid (∀ W, Calls Try.prog 10 #[.int .i64 0, .agg #[.int .i64 q, .int .i64 d, .int .i64 t], .agg #[.int .i64 l, .int .i64 e, .int .i64 n]] W fun E w' => E = .returned (.int .i64 h) ∧ Below W.heap.size W w')) (cA : AwC6) (w : World) :
    Calls Try.prog 3 #[.int .i64 now, .agg #[.int .i64 q, .int .i64 d, .int .i64 t], .agg #[.int .i64 l, .int .i64 e, .int .i64 n]] w fun E w' => E = .returned (.bool true) ∧ Below w.heap.size w w' := by
  have S0 := Lib.hid (Two3.start w 23 25 q d t l e n)
  have CA2 : Hid (∀ W, Calls Try.prog 14 #[] W fun E w' => E = .returned (.bool true) ∧ Below W.heap.size W w') := cA
  go_enter Try.func3, Try.ntmps3
  go_wp2_with fail
  refine (Hid.out CC _).mono ?_
  rintro E w1 ⟨rfl, b1⟩
  have S1 := Lib.hid (S0.out.next b1)
  have A1 := Lib.hid (B3.start w1 25 0 0 0)
  obtain ⟨r0, r1', r2'⟩ := S1.out.2.2.cells
  have lt1 := S1.out.2.2.lt
  go_wp2_with fail
  refine (Hid.out CP _).mono ?_
  rintro E w2 ⟨rfl, b2⟩
  go_wp2_with fail
  refine (Hid.out CK _).mono ?_
  rintro E w3 ⟨rfl, b3⟩
  have S3 := Lib.hid (((S1.out.alloc _).next b2).next b3)
  have A3 := Lib.hid ((A1.out.next b2).next b3)
  clear r0 r1' r2' lt1
  obtain ⟨r0, r1', r2'⟩ := S3.out.2.2.cells
  obtain ⟨o0, o1, o2⟩ := A3.out.cells
  go_wp2_with fail
  clear r0 r1' r2' o0 o1 o2 A3 A1 S1 S0
  have f0 := fun q => (S3.out.lies q).1.1
  have f1 := fun q => (S3.out.lies q).1.2.1
  have f2 := fun q => (S3.out.lies q).1.2.2
  have f3 := fun q => (S3.out.lies q).2.1
  have f4 := fun q => (S3.out.lies q).2.2.1
  have f5 := fun q => (S3.out.lies q).2.2.2
  haveI hin : Inhabited (LiesB w3) := ⟨⟨w3, Below.refl _ _⟩⟩
  refine region_lies mixedT (by kernel_rfl) ?_
  repeat (quiet_step (first | (go_at_call 9; (with_reducible exact lies_call CP.out _)) | (go_at_call 10; (with_reducible exact lies_call CW.out _))))
  refine wpQuiet_nil ?_
  rintro _ ⟨q4, rfl⟩
  clear f0 f1 f2 f3 f4 f5
  have S4 := Lib.hid (S3.out.next q4.h)
  obtain ⟨p0, p1, p2⟩ := S4.out.2.1.cells
  obtain ⟨r0, r1', r2'⟩ := S4.out.2.2.cells
  go_wp2_with fail
  refine (Hid.out CR _).mono ?_
  rintro E w5 ⟨rfl, b5⟩
  have S5 := Lib.hid ((S4.out.next b5).alloc (.cells #[.int .i64 0, .int .i64 0, .int .i64 0] 25))
  have R5 := Lib.hid (B3.start w5 25 0 0 0)
  have lt2 := (S4.out.next b5).2.1.lt
  have lt3 := (S4.out.next b5).2.2.lt
  clear p0 p1 p2 r0 r1' r2'
  obtain ⟨p0, p1, p2⟩ := (S4.out.next b5).2.1.cells
  obtain ⟨r0, r1', r2'⟩ := (S4.out.next b5).2.2.cells
  go_wp2_with fail
  refine (Hid.out CL _).mono ?_
  rintro E w6 ⟨rfl, b6⟩
  have S6 := Lib.hid (S5.out.next b6)
  clear p0 p1 p2 r0 r1' r2' lt2 lt3
  obtain ⟨p0, p1, p2⟩ := S6.out.2.1.cells
  obtain ⟨r0, r1', r2'⟩ := S6.out.2.2.cells
  go_wp2_with fail
  clear p0 p1 p2 r0 r1' r2'
  have f0 := fun q => (S6.out.lies q).1.1
  have f1 := fun q => (S6.out.lies q).1.2.1
  have f2 := fun q => (S6.out.lies q).1.2.2
  have f3 := fun q => (S6.out.lies q).2.1
  have f4 := fun q => (S6.out.lies q).2.2.1
  have f5 := fun q => (S6.out.lies q).2.2.2
  haveI hin : Inhabited (LiesB w6) := ⟨⟨w6, Below.refl _ _⟩⟩
  refine region_lies mixedT (by kernel_rfl) ?_
  repeat (quiet_step (first | (go_at_call 9; (with_reducible exact lies_call CP.out _)) | (go_at_call 10; (with_reducible exact lies_call CW0.out _))))
  refine wpQuiet_nil ?_
  rintro _ ⟨q7, rfl⟩
  clear f0 f1 f2 f3 f4 f5
  have S7 := Lib.hid (S6.out.next q7.h)
  go_wp2_with fail
  refine (Hid.out cA _).mono ?_
  rintro E w8 ⟨rfl, b8⟩
  go_wp2
  go_ret
  exact ⟨rfl, (S7.out.next b8).1⟩

set_option maxHeartbeats 4000000 in
set_option maxRecDepth 20000 in
theorem spends_k_1h (now q d t l e n : Int) (l0 : -1073741824 ≤ l) (l1 : l ≤ 1073741824) (n0 : 0 ≤ now) (n1 : now ≤ l + 1073741824) (n2 : now ≤ 2147483648) (g1 : decide (now < 0) = false) (g2 : decide (l + 1073741824 < now) = false) (CC : Hid (∀ W, Calls Try.prog 7 #[.agg #[.int .i64 l, .int .i64 e, .int .i64 n], .int .i64 now] W fun E w' => E = .returned (.tuple #[.agg #[.int .i64 (l - now), .int .i64 e, .int .i64 n], .int .i64 0]) ∧ Below W.heap.size W w')) (CK : Hid (∀ W, Calls Try.prog 8 #[.agg #[.int .i64 l, .int .i64 e, .int .i64 n]] W fun E w' => E = .returned (.int .i64 0) ∧ Below W.heap.size W w')) (CP : Hid (∀ W, Calls Try.prog 9 #[.agg #[.int .i64 l, .int .i64 e, .int .i64 n]] W fun E w' => E = .returned (.agg #[.int .i64 l, .int .i64 e, .int .i64 n]) ∧ Below W.heap.size W w')) (z : Int) (gz : (z != 0) = true) (CW : Hid (∀ W, Calls Try.prog 10 #[.int .i64 now, .agg #[.int .i64 q, .int .i64 d, .int .i64 t], .agg #[.int .i64 l, .int .i64 e, .int .i64 n]] W fun E w' => E = .returned (.int .i64 z) ∧ Below W.heap.size W w')) (CR : Hid (∀ W, Calls Try.prog 11 #[.int .i64 now, .agg #[.int .i64 q, .int .i64 d, .int .i64 t], .agg #[.int .i64 l, .int .i64 e, .int .i64 n]] W fun E w' => E = .returned (.tuple #[.agg #[.int .i64 0, .int .i64 0, .int .i64 0], .int .i64 z]) ∧ Below W.heap.size W w')) (h : Int) (gh : (h != 0) = true) (CL : Hid (∀ W, Calls Try.prog 13 #[.agg #[.int .i64 q, .int .i64 d, .int .i64 t], .agg #[.int .i64 l, .int .i64 e, .int .i64 n]] W fun E w' => E = .returned (.tuple #[.int .i64 0, .int .i64 h]) ∧ Below W.heap.size W w')) (CW0 : Hid (∀ W, Calls Try.prog 10 #[.int .i64 0, .agg #[.int .i64 q, .int .i64 d, .int .i64 t], .agg #[.int .i64 l, .int .i64 e, .int .i64 n]] W fun E w' => E = .returned (.int .i64 h) ∧ Below W.heap.size W w')) (cA : AwC6) (w : World) :
    Calls Try.prog 3 #[.int .i64 now, .agg #[.int .i64 q, .int .i64 d, .int .i64 t], .agg #[.int .i64 l, .int .i64 e, .int .i64 n]] w fun E w' => E = .returned (.bool true) ∧ Below w.heap.size w w' := by
  have S0 := Lib.hid (Two3.start w 23 25 q d t l e n)
  have CA2 : Hid (∀ W, Calls Try.prog 14 #[] W fun E w' => E = .returned (.bool true) ∧ Below W.heap.size W w') := cA
  go_enter Try.func3, Try.ntmps3
  go_wp2_with fail
  refine (Hid.out CC _).mono ?_
  rintro E w1 ⟨rfl, b1⟩
  have S1 := Lib.hid (S0.out.next b1)
  have A1 := Lib.hid (B3.start w1 25 (l - now) e n)
  obtain ⟨r0, r1', r2'⟩ := S1.out.2.2.cells
  have lt1 := S1.out.2.2.lt
  go_wp2_with fail
  refine (Hid.out CP _).mono ?_
  rintro E w2 ⟨rfl, b2⟩
  go_wp2_with fail
  refine (Hid.out CK _).mono ?_
  rintro E w3 ⟨rfl, b3⟩
  have S3 := Lib.hid (((S1.out.alloc _).next b2).next b3)
  have A3 := Lib.hid ((A1.out.next b2).next b3)
  clear r0 r1' r2' lt1
  obtain ⟨r0, r1', r2'⟩ := S3.out.2.2.cells
  obtain ⟨o0, o1, o2⟩ := A3.out.cells
  go_wp2_with fail
  clear r0 r1' r2' o0 o1 o2 A3 A1 S1 S0
  have f0 := fun q => (S3.out.lies q).1.1
  have f1 := fun q => (S3.out.lies q).1.2.1
  have f2 := fun q => (S3.out.lies q).1.2.2
  have f3 := fun q => (S3.out.lies q).2.1
  have f4 := fun q => (S3.out.lies q).2.2.1
  have f5 := fun q => (S3.out.lies q).2.2.2
  haveI hin : Inhabited (LiesB w3) := ⟨⟨w3, Below.refl _ _⟩⟩
  refine region_lies mixedT (by kernel_rfl) ?_
  repeat (quiet_step (first | (go_at_call 9; (with_reducible exact lies_call CP.out _)) | (go_at_call 10; (with_reducible exact lies_call CW.out _))))
  refine wpQuiet_nil ?_
  rintro _ ⟨q4, rfl⟩
  clear f0 f1 f2 f3 f4 f5
  have S4 := Lib.hid (S3.out.next q4.h)
  obtain ⟨p0, p1, p2⟩ := S4.out.2.1.cells
  obtain ⟨r0, r1', r2'⟩ := S4.out.2.2.cells
  go_wp2_with fail
  refine (Hid.out CR _).mono ?_
  rintro E w5 ⟨rfl, b5⟩
  have S5 := Lib.hid ((S4.out.next b5).alloc (.cells #[.int .i64 0, .int .i64 0, .int .i64 0] 25))
  have R5 := Lib.hid (B3.start w5 25 0 0 0)
  have lt2 := (S4.out.next b5).2.1.lt
  have lt3 := (S4.out.next b5).2.2.lt
  clear p0 p1 p2 r0 r1' r2'
  obtain ⟨p0, p1, p2⟩ := (S4.out.next b5).2.1.cells
  obtain ⟨r0, r1', r2'⟩ := (S4.out.next b5).2.2.cells
  go_wp2_with fail
  refine (Hid.out CL _).mono ?_
  rintro E w6 ⟨rfl, b6⟩
  have S6 := Lib.hid (S5.out.next b6)
  clear p0 p1 p2 r0 r1' r2' lt2 lt3
  obtain ⟨p0, p1, p2⟩ := S6.out.2.1.cells
  obtain ⟨r0, r1', r2'⟩ := S6.out.2.2.cells
  go_wp2_with fail
  clear p0 p1 p2 r0 r1' r2'
  have f0 := fun q => (S6.out.lies q).1.1
  have f1 := fun q => (S6.out.lies q).1.2.1
  have f2 := fun q => (S6.out.lies q).1.2.2
  have f3 := fun q => (S6.out.lies q).2.1
  have f4 := fun q => (S6.out.lies q).2.2.1
  have f5 := fun q => (S6.out.lies q).2.2.2
  haveI hin : Inhabited (LiesB w6) := ⟨⟨w6, Below.refl _ _⟩⟩
  refine region_lies mixedT (by kernel_rfl) ?_
  repeat (quiet_step (first | (go_at_call 9; (with_reducible exact lies_call CP.out _)) | (go_at_call 10; (with_reducible exact lies_call CW0.out _))))
  refine wpQuiet_nil ?_
  rintro _ ⟨q7, rfl⟩
  clear f0 f1 f2 f3 f4 f5
  have S7 := Lib.hid (S6.out.next q7.h)
  go_wp2_with fail
  refine (Hid.out cA _).mono ?_
  rintro E w8 ⟨rfl, b8⟩
  go_wp2
  go_ret
  exact ⟨rfl, (S7.out.next b8).1⟩
end Go.Proofs.YtbkdfbddcfglgaaRRR
