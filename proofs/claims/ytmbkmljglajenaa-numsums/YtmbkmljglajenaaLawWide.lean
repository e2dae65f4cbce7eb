/-
  The walk of NumWide.
-/
import Derived.Test.YtmbkmljglajenaaLawAdds
namespace Go.Proofs.Ytmbkmljglajenaa
open Go.RowKit
set_option linter.unusedVariables false

/-- What the law's own array of four holds, while callees make blocks behind it. -/
def Arr4 (w W : World) (a b c d : Int) : Prop :=
  w.heap.size < W.heap.size ∧ Below w.heap.size w W ∧ W.cell? ⟨w.heap.size, 0, none⟩ = some (.int .i64 a) ∧ W.cell? ⟨w.heap.size, 1, none⟩ = some (.int .i64 b) ∧ W.cell? ⟨w.heap.size, 2, none⟩ = some (.int .i64 c) ∧ W.cell? ⟨w.heap.size, 3, none⟩ = some (.int .i64 d)
theorem Arr4.next {w W W' : World} {a b c d : Int} (h : Arr4 w W a b c d) (hb : Below W.heap.size W W') : Arr4 w W' a b c d := by
  obtain ⟨hz, hB, p0, p1, p2, p3⟩ := h
  have hk : ∀ o, W'.cell? ⟨w.heap.size, o, none⟩ = W.cell? ⟨w.heap.size, o, none⟩ := fun o => hb.cell (p := ⟨w.heap.size, o, none⟩) hz
  exact ⟨Nat.lt_of_lt_of_le hz hb.size, hB.trans (hb.mono hB.size), (hk 0).trans p0, (hk 1).trans p1, (hk 2).trans p2, (hk 3).trans p3⟩
theorem Arr4.alloc {w W : World} {a b c d : Int} (h : Arr4 w W a b c d) (o : Obj) : Arr4 w (W.alloc o) a b c d := h.next ((Below.refl _ _).alloc (Nat.le_refl _) o)
theorem Arr4.start (w : World) (a b c d : Int) (t : TypeId) : Arr4 w (w.alloc (.cells #[.int .i64 a, .int .i64 b, .int .i64 c, .int .i64 d] t)) a b c d :=
  ⟨by simp, (Below.refl _ _).alloc (Nat.le_refl _) _, by simp [go_sem], by simp [go_sem], by simp [go_sem], by simp [go_sem]⟩
theorem Arr4.all {w W : World} {a b c d : Int} (h : Arr4 w W a b c d) : (∀ o, (W.alloc o).cell? ⟨w.heap.size, 0, none⟩ = some (.int .i64 a)) ∧ (∀ o, (W.alloc o).cell? ⟨w.heap.size, 1, none⟩ = some (.int .i64 b)) ∧ (∀ o, (W.alloc o).cell? ⟨w.heap.size, 2, none⟩ = some (.int .i64 c)) ∧ (∀ o, (W.alloc o).cell? ⟨w.heap.size, 3, none⟩ = some (.int .i64 d)) :=
  ⟨fun o => (h.alloc o).2.2.1, fun o => (h.alloc o).2.2.2.1, fun o => (h.alloc o).2.2.2.2.1, fun o => (h.alloc o).2.2.2.2.2⟩
theorem two_keep {W W' : World} {g : Nat} {x y : Int} (h : W.cell? ⟨g, 0, none⟩ = some (.int .u64 x) ∧ W.cell? ⟨g, 1, none⟩ = some (.int .u64 y)) (hb : Below W.heap.size W W') :
    W'.cell? ⟨g, 0, none⟩ = some (.int .u64 x) ∧ W'.cell? ⟨g, 1, none⟩ = some (.int .u64 y) := by
  have hlt : g < W.heap.size := World.block_lt_of_cell? W ⟨g, 0, none⟩ h.1
  exact ⟨(hb.cell (p := ⟨g, 0, none⟩) hlt).trans h.1, (hb.cell (p := ⟨g, 1, none⟩) hlt).trans h.2⟩

set_option maxRecDepth 20000 in
set_option maxHeartbeats 2000000 in
theorem wide_n1 (a b c d : Int) (ph pl qh ql pe qe : Int) (h1 : decide (a < 0) = true) (e1 : (pe != 10) = false) (e2 : (ph == 0) = true) (e3 : (pl == 0) = true)
    (cP : Hid (∀ W, Calls Try.prog 22 #[.int .i64 a, .int .i64 b] W fun E w' => E = .returned (.tuple #[.agg #[.int .u64 ph, .int .u64 pl], .int .i64 pe]) ∧ Below W.heap.size W w'))
    (cQ : Hid (∀ W, Calls Try.prog 22 #[.int .i64 c, .int .i64 d] W fun E w' => E = .returned (.tuple #[.agg #[.int .u64 qh, .int .u64 ql], .int .i64 qe]) ∧ Below W.heap.size W w'))
    (cL : Hid (∀ W, Calls Try.prog 23 #[.int .i64 a, .int .i64 b, .int .i64 c, .int .i64 d] W fun E w' => E = .returned (.tuple #[.bool false, .int .i64 10]) ∧ Below W.heap.size W w'))
    (cW : Hid (∀ W, Calls Try.prog 11 #[] W fun E w' => E = .returned (.bool true) ∧ Below W.heap.size W w')) (w : World) :
    Calls Try.prog 4 #[.agg #[.int .i64 a, .int .i64 b, .int .i64 c, .int .i64 d]] w fun E w' => E = .returned (.bool true) ∧ Below w.heap.size w w' := by
  go_enter Try.func4, Try.ntmps4
  go_wp2_with fail
  refine (cP.out _).mono ?_
  rintro E w1 ⟨rfl, b1⟩
  have H1 := Lib.hid ((Arr4.start w a b c d 37).next b1)
  have T1 := Lib.hid (Two.new w1 ph pl 39)
  obtain ⟨p0, p1, p2, p3⟩ := H1.out.all
  clear b1
  go_wp2_with fail
  refine (cQ.out _).mono ?_
  rintro E w2 ⟨rfl, b2⟩
  have H2 := Lib.hid ((H1.out.alloc _).next b2)
  have T2 := Lib.hid (T1.out.next b2)
  have S2 := Lib.hid (Two.new w2 qh ql 39)
  clear p0 p1 p2 p3 b2 H1 T1
  generalize w1.heap.size = ga at *
  obtain ⟨p0, p1, p2, p3⟩ := H2.out.all
  go_wp2_with fail
  refine (cL.out _).mono ?_
  rintro E w3 ⟨rfl, b3⟩
  have H3 := Lib.hid ((H2.out.alloc _).next b3)
  have T3 := Lib.hid ((T2.out.next ((Below.refl _ _).alloc (Nat.le_refl _) _)).next b3)
  have S3 := Lib.hid (S2.out.next b3)
  clear p0 p1 p2 p3 b3 H2 T2 S2
  generalize w2.heap.size = gb at *
  obtain ⟨_, _, p0, p1, p2, p3⟩ := H3.out
  obtain ⟨_, t0, t1⟩ := T3.out
  obtain ⟨_, s0, s1⟩ := S3.out
  go_wp2_with (go_at_call 11; refine (cW.out _).mono ?_; rintro E w4 ⟨rfl, b4⟩)
  go_ret
  exact ⟨rfl, (H3.out.next b4).2.1⟩

set_option maxRecDepth 20000 in
set_option maxHeartbeats 2000000 in
theorem wide_n2 (a b c d : Int) (ph pl qh ql pe qe : Int) (h1 : decide (a < 0) = false) (h2 : decide (b < 0) = true) (e1 : (pe != 10) = false) (e2 : (ph == 0) = true) (e3 : (pl == 0) = true)
    (cP : Hid (∀ W, Calls Try.prog 22 #[.int .i64 a, .int .i64 b] W fun E w' => E = .returned (.tuple #[.agg #[.int .u64 ph, .int .u64 pl], .int .i64 pe]) ∧ Below W.heap.size W w'))
    (cQ : Hid (∀ W, Calls Try.prog 22 #[.int .i64 c, .int .i64 d] W fun E w' => E = .returned (.tuple #[.agg #[.int .u64 qh, .int .u64 ql], .int .i64 qe]) ∧ Below W.heap.size W w'))
    (cL : Hid (∀ W, Calls Try.prog 23 #[.int .i64 a, .int .i64 b, .int .i64 c, .int .i64 d] W fun E w' => E = .returned (.tuple #[.bool false, .int .i64 10]) ∧ Below W.heap.size W w'))
    (cW : Hid (∀ W, Calls Try.prog 11 #[] W fun E w' => E = .returned (.bool true) ∧ Below W.heap.size W w')) (w : World) :
    Calls Try.prog 4 #[.agg #[.int .i64 a, .int .i64 b, .int .i64 c, .int .i64 d]] w fun E w' => E = .returned (.bool true) ∧ Below w.heap.size w w' := by
  go_enter Try.func4, Try.ntmps4
  go_wp2_with fail
  refine (cP.out _).mono ?_
  rintro E w1 ⟨rfl, b1⟩
  have H1 := Lib.hid ((Arr4.start w a b c d 37).next b1)
  have T1 := Lib.hid (Two.new w1 ph pl 39)
  obtain ⟨p0, p1, p2, p3⟩ := H1.out.all
  clear b1
  go_wp2_with fail
  refine (cQ.out _).mono ?_
  rintro E w2 ⟨rfl, b2⟩
  have H2 := Lib.hid ((H1.out.alloc _).next b2)
  have T2 := Lib.hid (T1.out.next b2)
  have S2 := Lib.hid (Two.new w2 qh ql 39)
  clear p0 p1 p2 p3 b2 H1 T1
  generalize w1.heap.size = ga at *
  obtain ⟨p0, p1, p2, p3⟩ := H2.out.all
  go_wp2_with fail
  refine (cL.out _).mono ?_
  rintro E w3 ⟨rfl, b3⟩
  have H3 := Lib.hid ((H2.out.alloc _).next b3)
  have T3 := Lib.hid ((T2.out.next ((Below.refl _ _).alloc (Nat.le_refl _) _)).next b3)
  have S3 := Lib.hid (S2.out.next b3)
  clear p0 p1 p2 p3 b3 H2 T2 S2
  generalize w2.heap.size = gb at *
  obtain ⟨_, _, p0, p1, p2, p3⟩ := H3.out
  obtain ⟨_, t0, t1⟩ := T3.out
  obtain ⟨_, s0, s1⟩ := S3.out
  go_wp2_with (go_at_call 11; refine (cW.out _).mono ?_; rintro E w4 ⟨rfl, b4⟩)
  go_ret
  exact ⟨rfl, (H3.out.next b4).2.1⟩

set_option maxRecDepth 20000 in
set_option maxHeartbeats 2000000 in
theorem wide_n3 (a b c d : Int) (ph pl qh ql pe qe : Int) (h1 : decide (a < 0) = false) (h2 : decide (b < 0) = false) (h3 : decide (c < 0) = true)
    (cP : Hid (∀ W, Calls Try.prog 22 #[.int .i64 a, .int .i64 b] W fun E w' => E = .returned (.tuple #[.agg #[.int .u64 ph, .int .u64 pl], .int .i64 pe]) ∧ Below W.heap.size W w'))
    (cQ : Hid (∀ W, Calls Try.prog 22 #[.int .i64 c, .int .i64 d] W fun E w' => E = .returned (.tuple #[.agg #[.int .u64 qh, .int .u64 ql], .int .i64 qe]) ∧ Below W.heap.size W w'))
    (cL : Hid (∀ W, Calls Try.prog 23 #[.int .i64 a, .int .i64 b, .int .i64 c, .int .i64 d] W fun E w' => E = .returned (.tuple #[.bool false, .int .i64 10]) ∧ Below W.heap.size W w'))
    (cW : Hid (∀ W, Calls Try.prog 11 #[] W fun E w' => E = .returned (.bool true) ∧ Below W.heap.size W w')) (w : World) :
    Calls Try.prog 4 #[.agg #[.int .i64 a, .int .i64 b, .int .i64 c, .int .i64 d]] w fun E w' => E = .returned (.bool true) ∧ Below w.heap.size w w' := by
  go_enter Try.func4, Try.ntmps4
  go_wp2_with fail
  refine (cP.out _).mono ?_
  rintro E w1 ⟨rfl, b1⟩
  have H1 := Lib.hid ((Arr4.start w a b c d 37).next b1)
  have T1 := Lib.hid (Two.new w1 ph pl 39)
  obtain ⟨p0, p1, p2, p3⟩ := H1.out.all
  clear b1
  go_wp2_with fail
  refine (cQ.out _).mono ?_
  rintro E w2 ⟨rfl, b2⟩
  have H2 := Lib.hid ((H1.out.alloc _).next b2)
  have T2 := Lib.hid (T1.out.next b2)
  have S2 := Lib.hid (Two.new w2 qh ql 39)
  clear p0 p1 p2 p3 b2 H1 T1
  generalize w1.heap.size = ga at *
  obtain ⟨p0, p1, p2, p3⟩ := H2.out.all
  go_wp2_with fail
  refine (cL.out _).mono ?_
  rintro E w3 ⟨rfl, b3⟩
  have H3 := Lib.hid ((H2.out.alloc _).next b3)
  have T3 := Lib.hid ((T2.out.next ((Below.refl _ _).alloc (Nat.le_refl _) _)).next b3)
  have S3 := Lib.hid (S2.out.next b3)
  clear p0 p1 p2 p3 b3 H2 T2 S2
  generalize w2.heap.size = gb at *
  obtain ⟨_, _, p0, p1, p2, p3⟩ := H3.out
  obtain ⟨_, t0, t1⟩ := T3.out
  obtain ⟨_, s0, s1⟩ := S3.out
  go_wp2_with (go_at_call 11; refine (cW.out _).mono ?_; rintro E w4 ⟨rfl, b4⟩)
  go_ret
  exact ⟨rfl, (H3.out.next b4).2.1⟩

set_option maxRecDepth 20000 in
set_option maxHeartbeats 2000000 in
theorem wide_n4 (a b c d : Int) (ph pl qh ql pe qe : Int) (h1 : decide (a < 0) = false) (h2 : decide (b < 0) = false) (h3 : decide (c < 0) = false) (h4 : decide (d < 0) = true)
    (cP : Hid (∀ W, Calls Try.prog 22 #[.int .i64 a, .int .i64 b] W fun E w' => E = .returned (.tuple #[.agg #[.int .u64 ph, .int .u64 pl], .int .i64 pe]) ∧ Below W.heap.size W w'))
    (cQ : Hid (∀ W, Calls Try.prog 22 #[.int .i64 c, .int .i64 d] W fun E w' => E = .returned (.tuple #[.agg #[.int .u64 qh, .int .u64 ql], .int .i64 qe]) ∧ Below W.heap.size W w'))
    (cL : Hid (∀ W, Calls Try.prog 23 #[.int .i64 a, .int .i64 b, .int .i64 c, .int .i64 d] W fun E w' => E = .returned (.tuple #[.bool false, .int .i64 10]) ∧ Below W.heap.size W w'))
    (cW : Hid (∀ W, Calls Try.prog 11 #[] W fun E w' => E = .returned (.bool true) ∧ Below W.heap.size W w')) (w : World) :
    Calls Try.prog 4 #[.agg #[.int .i64 a, .int .i64 b, .int .i64 c, .int .i64 d]] w fun E w' => E = .returned (.bool true) ∧ Below w.heap.size w w' := by
  go_enter Try.func4, Try.ntmps4
  go_wp2_with fail
  refine (cP.out _).mono ?_
  rintro E w1 ⟨rfl, b1⟩
  have H1 := Lib.hid ((Arr4.start w a b c d 37).next b1)
  have T1 := Lib.hid (Two.new w1 ph pl 39)
  obtain ⟨p0, p1, p2, p3⟩ := H1.out.all
  clear b1
  go_wp2_with fail
  refine (cQ.out _).mono ?_
  rintro E w2 ⟨rfl, b2⟩
  have H2 := Lib.hid ((H1.out.alloc _).next b2)
  have T2 := Lib.hid (T1.out.next b2)
  have S2 := Lib.hid (Two.new w2 qh ql 39)
  clear p0 p1 p2 p3 b2 H1 T1
  generalize w1.heap.size = ga at *
  obtain ⟨p0, p1, p2, p3⟩ := H2.out.all
  go_wp2_with fail
  refine (cL.out _).mono ?_
  rintro E w3 ⟨rfl, b3⟩
  have H3 := Lib.hid ((H2.out.alloc _).next b3)
  have T3 := Lib.hid ((T2.out.next ((Below.refl _ _).alloc (Nat.le_refl _) _)).next b3)
  have S3 := Lib.hid (S2.out.next b3)
  clear p0 p1 p2 p3 b3 H2 T2 S2
  generalize w2.heap.size = gb at *
  obtain ⟨_, _, p0, p1, p2, p3⟩ := H3.out
  obtain ⟨_, t0, t1⟩ := T3.out
  obtain ⟨_, s0, s1⟩ := S3.out
  go_wp2_with (go_at_call 11; refine (cW.out _).mono ?_; rintro E w4 ⟨rfl, b4⟩)
  go_ret
  exact ⟨rfl, (H3.out.next b4).2.1⟩

set_option maxRecDepth 20000 in
set_option maxHeartbeats 4000000 in
theorem wide_pos (a b c d A B ch cl : Nat) (ph pl qh ql : Int) (lt : Bool) (ha : a ≤ 9223372036854775807) (hb : b ≤ 9223372036854775807) (hc : c ≤ 9223372036854775807) (hd : d ≤ 9223372036854775807)
    (hs : Hid (A + B < 65536 ^ 12)) (f1 : Hid (decide (A < B) = lt))
    (cP : Hid (∀ W, Calls Try.prog 22 #[.int .i64 (a : Int), .int .i64 (b : Int)] W fun E w' => E = .returned (.tuple #[.agg #[.int .u64 ph, .int .u64 pl], .int .i64 0]) ∧ Below W.heap.size W w'))
    (cQ : Hid (∀ W, Calls Try.prog 22 #[.int .i64 (c : Int), .int .i64 (d : Int)] W fun E w' => E = .returned (.tuple #[.agg #[.int .u64 qh, .int .u64 ql], .int .i64 0]) ∧ Below W.heap.size W w'))
    (cL : Hid (∀ W, Calls Try.prog 23 #[.int .i64 (a : Int), .int .i64 (b : Int), .int .i64 (c : Int), .int .i64 (d : Int)] W fun E w' => E = .returned (.tuple #[.bool lt, .int .i64 0]) ∧ Below W.heap.size W w'))
    (cX : Hid (∀ W, Calls Try.prog 19 #[.int .u64 (a : Int), .int .u64 (b : Int)] W (Makes W A)))
    (cY : Hid (∀ W, Calls Try.prog 19 #[.int .u64 (c : Int), .int .u64 (d : Int)] W (Makes W B)))
    (cS1 : Hid (∀ W g, NumD W g A → Calls Try.prog 24 #[.agg #[.int .u64 ph, .int .u64 pl], .slice (some ⟨g, 0, none⟩) 12 12] W fun E w' => E = .returned (.bool true) ∧ Below W.heap.size W w'))
    (cS2 : Hid (∀ W g, NumD W g B → Calls Try.prog 24 #[.agg #[.int .u64 qh, .int .u64 ql], .slice (some ⟨g, 0, none⟩) 12 12] W fun E w' => E = .returned (.bool true) ∧ Below W.heap.size W w'))
    (cS3 : Hid (∀ W g, NumD W g (A + B) → Calls Try.prog 24 #[.agg #[.int .u64 (ch : Int), .int .u64 (cl : Int)], .slice (some ⟨g, 0, none⟩) 12 12] W fun E w' => E = .returned (.bool true) ∧ Below W.heap.size W w'))
    (cA : Hid (∀ W, Calls Try.prog 25 #[.agg #[.int .u64 ph, .int .u64 pl], .agg #[.int .u64 qh, .int .u64 ql]] W fun E w' => E = .returned (.tuple #[.agg #[.int .u64 (ch : Int), .int .u64 (cl : Int)], .int .i64 0]) ∧ Below W.heap.size W w'))
    (cW : Hid (∀ W, Calls Try.prog 11 #[] W fun E w' => E = .returned (.bool true) ∧ Below W.heap.size W w')) (w : World) :
    Calls Try.prog 4 #[.agg #[.int .i64 (a : Int), .int .i64 (b : Int), .int .i64 (c : Int), .int .i64 (d : Int)]] w fun E w' => E = .returned (.bool true) ∧ Below w.heap.size w w' := by
  have h1 : decide ((a : Int) < 0) = false := by simp
  have h2 : decide ((b : Int) < 0) = false := by simp
  have h3 : decide ((c : Int) < 0) = false := by simp
  have h4 : decide ((d : Int) < 0) = false := by simp
  go_enter Try.func4, Try.ntmps4
  go_wp2_with fail
  refine (cP.out _).mono ?_
  rintro E w1 ⟨rfl, b1⟩
  have H1 := Lib.hid ((Arr4.start w a b c d 37).next b1)
  have T1 := Lib.hid (Two.new w1 ph pl 39)
  obtain ⟨p0, p1, p2, p3⟩ := H1.out.all
  clear b1
  go_wp2_with fail
  refine (cQ.out _).mono ?_
  rintro E w2 ⟨rfl, b2⟩
  have H2 := Lib.hid ((H1.out.alloc _).next b2)
  have T2 := Lib.hid (T1.out.next b2)
  have S2 := Lib.hid (Two.new w2 qh ql 39)
  clear p0 p1 p2 p3 b2 H1 T1
  generalize w1.heap.size = ga at *
  obtain ⟨p0, p1, p2, p3⟩ := H2.out.all
  go_wp2_with fail
  refine (cL.out _).mono ?_
  rintro E w3 ⟨rfl, b3⟩
  have H3 := Lib.hid ((H2.out.alloc _).next b3)
  have T3 := Lib.hid ((T2.out.next ((Below.refl _ _).alloc (Nat.le_refl _) _)).next b3)
  have S3 := Lib.hid (S2.out.next b3)
  clear p0 p1 p2 p3 b3 H2 T2 S2
  generalize w2.heap.size = gb at *
  obtain ⟨_, _, p0, p1, p2, p3⟩ := H3.out
  obtain ⟨_, t0, t1⟩ := T3.out
  obtain ⟨_, s0, s1⟩ := S3.out
  go_wp2_with fail
  refine (cX.out _).mono ?_
  rintro E w4 ⟨g4, rfl, n4, b4⟩
  have H4 := Lib.hid (H3.out.next b4)
  have T4 := Lib.hid (T3.out.next b4)
  have S4 := Lib.hid (S3.out.next b4)
  have N4 := Lib.hid n4
  clear p0 p1 p2 p3 t0 t1 s0 s1 n4 b4 H3 T3 S3
  obtain ⟨_, _, p0, p1, p2, p3⟩ := H4.out
  go_wp2_with fail
  refine (cY.out _).mono ?_
  rintro E w5 ⟨g5, rfl, n5, b5⟩
  have H5 := Lib.hid (H4.out.next b5)
  have T5 := Lib.hid (T4.out.next b5)
  have S5 := Lib.hid (S4.out.next b5)
  have N5 := Lib.hid n5
  have M5 := Lib.hid (N4.out.next b5)
  clear p0 p1 p2 p3 n5 b5 H4 T4 S4 N4
  obtain ⟨_, t0, t1⟩ := T5.out
  go_wp2_with fail
  refine (cS1.out _ _ M5.out).mono ?_
  rintro E w6 ⟨rfl, b6⟩
  have H6 := Lib.hid (H5.out.next b6)
  have T6 := Lib.hid (T5.out.next b6)
  have S6 := Lib.hid (S5.out.next b6)
  have N6 := Lib.hid (N5.out.next b6)
  have M6 := Lib.hid (M5.out.next b6)
  clear t0 t1 b6 H5 T5 S5 N5 M5
  obtain ⟨_, s0, s1⟩ := S6.out
  go_wp2_with fail
  refine (cS2.out _ _ N6.out).mono ?_
  rintro E w7 ⟨rfl, b7⟩
  have H7 := Lib.hid (H6.out.next b7)
  have T7 := Lib.hid (T6.out.next b7)
  have S7 := Lib.hid (S6.out.next b7)
  have N7 := Lib.hid (N6.out.next b7)
  have M7 := Lib.hid (M6.out.next b7)
  clear s0 s1 b7 H6 T6 S6 N6 M6
  have u1 := fun W (hx : NumD W g4 A) (hy : NumD W g5 B) => under_any g4 g5 12 12 A B W hx hy
  rw [f1.out] at u1
  have U1 := Lib.hid u1
  clear u1
  go_wp2_with fail
  refine (U1.out _ M7.out N7.out).mono ?_
  rintro E w' ⟨rfl, d1, rfl⟩
  obtain ⟨_, t0, t1⟩ := T7.out
  obtain ⟨_, s0, s1⟩ := S7.out
  go_wp2_with fail
  refine (cA.out _).mono ?_
  rintro E w8 ⟨rfl, b8⟩
  have B8 := Lib.hid (below_draws d1 b8)
  have H8 := Lib.hid ((H7.out.next B8.out).alloc (.cells #[.int .u64 (ch : Int), .int .u64 (cl : Int)] 39))
  have N8 := Lib.hid ((N7.out.next B8.out).next ((Below.refl _ _).alloc (Nat.le_refl _) (.cells #[.int .u64 (ch : Int), .int .u64 (cl : Int)] 39)))
  have M8 := Lib.hid ((M7.out.next B8.out).next ((Below.refl _ _).alloc (Nat.le_refl _) (.cells #[.int .u64 (ch : Int), .int .u64 (cl : Int)] 39)))
  clear t0 t1 s0 s1 b8 H7 T7 S7 N7 M7 B8
  obtain ⟨_, x0, x1⟩ := Two.new w8 (ch : Int) (cl : Int) 39
  have pl' := Lib.hid (fun W (hx : NumD W g4 A) (hy : NumD W g5 B) => plus_any g4 g5 12 12 A B W hx hy hs.out)
  go_upto_region 14 with (fail)
  generalize w8.alloc (.cells #[.int .u64 (ch : Int), .int .u64 (cl : Int)] 39) = W8 at *
  generalize w8.heap.size = gc at *
  go_region_held3 (fun w' => w'.cell? ⟨gc, 0, none⟩ = some (.int .u64 (ch : Int)) ∧ w'.cell? ⟨gc, 1, none⟩ = some (.int .u64 (cl : Int)))
    (first | exact ⟨x0, x1⟩ | exact two_keep (by assumption) b9 | exact two_keep (by assumption) b10 | exact two_keep (by assumption) b11)
    (first
      | (go_at_call 15; refine (pl'.out _ (by exact M8.out) (by exact N8.out)).mono ?_; rintro E w9 ⟨g9, rfl, n9, b9⟩)
      | (go_at_call 24; refine (cS3.out _ _ (by exact n9)).mono ?_; rintro E w10 ⟨rfl, b10⟩)
      | (go_at_call 11; refine (cW.out _).mono ?_; rintro E w11 ⟨rfl, b11⟩))
  go_wp2
  go_ret
  have q9 : Below W8.heap.size W8 w9 := ⟨b9.os, b9.tape, b9.output, b9.size, b9.block⟩
  exact ⟨rfl, (((H8.out.next q9).next b10).next b11).2.1⟩

theorem split64 (p : Nat) : p / 18446744073709551616 * 18446744073709551616 + p % 18446744073709551616 = p := Nat.div_add_mod' p _
theorem prod126 {a b : Nat} (ha : a ≤ 9223372036854775807) (hb : b ≤ 9223372036854775807) : a * b ≤ 85070591730234615847396907784232501249 := Nat.mul_le_mul ha hb
theorem same_prod (p g : Nat) (hp : p ≤ 85070591730234615847396907784232501249) (W : World) (hn : NumD W g p) :
    Calls Try.prog 24 #[.agg #[.int .u64 (hiW p), .int .u64 (loW p)], .slice (some ⟨g, 0, none⟩) 12 12] W fun E w' => E = .returned (.bool true) ∧ Below W.heap.size W w' :=
  same_yes (p / 18446744073709551616) (p % 18446744073709551616) g (by omega) (Nat.mod_lt _ (by omega)) W (by rw [split64]; exact hn)

theorem walk_NumWide (a b c d : Int) (w : World) (ha : -9223372036854775808 ≤ a ∧ a ≤ 9223372036854775807) (hb : -9223372036854775808 ≤ b ∧ b ≤ 9223372036854775807) (hc : -9223372036854775808 ≤ c ∧ c ≤ 9223372036854775807) (hd : -9223372036854775808 ≤ d ∧ d ≤ 9223372036854775807) :
    Calls Try.prog 4 #[.agg #[.int .i64 a, .int .i64 b, .int .i64 c, .int .i64 d]] w fun E w' => E = .returned (.bool true) ∧ Below w.heap.size w w' := by
  have cW := Lib.hid (fun W => awake_any W)
  by_cases hab : a < 0 ∨ b < 0
  · have cP := Lib.hid (fun W => product_neg a b hab W)
    have cL := Lib.hid (fun W => less_neg1 a b c d hab W)
    obtain ⟨qh, ql, qe, cQ⟩ : ∃ qh ql qe : Int, ∀ W, Calls Try.prog 22 #[.int .i64 c, .int .i64 d] W fun E w' => E = .returned (.tuple #[.agg #[.int .u64 qh, .int .u64 ql], .int .i64 qe]) ∧ Below W.heap.size W w' := by
      by_cases hcd : c < 0 ∨ d < 0
      · exact ⟨0, 0, 10, fun W => product_neg c d hcd W⟩
      · obtain ⟨c, rfl⟩ := Int.eq_ofNat_of_zero_le (by omega : 0 ≤ c)
        obtain ⟨d, rfl⟩ := Int.eq_ofNat_of_zero_le (by omega : 0 ≤ d)
        exact ⟨_, _, 0, fun W => product_ok c d (by omega) (by omega) W⟩
    by_cases h1 : a < 0
    · exact wide_n1 a b c d 0 0 qh ql 10 qe (by simpa using h1) (by decide) (by decide) (by decide) cP (Lib.hid cQ) cL cW w
    · exact wide_n2 a b c d 0 0 qh ql 10 qe (by simpa using h1) (by simp; omega) (by decide) (by decide) (by decide) cP (Lib.hid cQ) cL cW w
  obtain ⟨a, rfl⟩ := Int.eq_ofNat_of_zero_le (by omega : 0 ≤ a)
  obtain ⟨b, rfl⟩ := Int.eq_ofNat_of_zero_le (by omega : 0 ≤ b)
  have ha' : a ≤ 9223372036854775807 := by omega
  have hb' : b ≤ 9223372036854775807 := by omega
  have cP := Lib.hid (fun W => product_ok a b ha' hb' W)
  by_cases hcd : c < 0 ∨ d < 0
  · have cQ := Lib.hid (fun W => product_neg c d hcd W)
    have cL := Lib.hid (fun W => less_neg2 a b c d ha' hb' hcd W)
    by_cases h1 : c < 0
    · exact wide_n3 a b c d _ _ 0 0 0 10 (by simp) (by simp) (by simpa using h1) cP cQ cL cW w
    · exact wide_n4 a b c d _ _ 0 0 0 10 (by simp) (by simp) (by simpa using h1) (by simp; omega) cP cQ cL cW w
  obtain ⟨c, rfl⟩ := Int.eq_ofNat_of_zero_le (by omega : 0 ≤ c)
  obtain ⟨d, rfl⟩ := Int.eq_ofNat_of_zero_le (by omega : 0 ≤ d)
  have hc' : c ≤ 9223372036854775807 := by omega
  have hd' : d ≤ 9223372036854775807 := by omega
  have cQ := Lib.hid (fun W => product_ok c d hc' hd' W)
  have cL := Lib.hid (fun W => less_ok a b c d ha' hb' hc' hd' W)
  have cX := Lib.hid (fun W => times_dig a b (by omega) (by omega) W)
  have cY := Lib.hid (fun W => times_dig c d (by omega) (by omega) W)
  have m1 := prod126 ha' hb'
  have m2 := prod126 hc' hd'
  have s1 := Lib.hid (fun W g (hn : NumD W g (a * b)) => same_prod (a * b) g m1 W hn)
  have s2 := Lib.hid (fun W g (hn : NumD W g (c * d)) => same_prod (c * d) g m2 W hn)
  have hs : a * b + c * d < 65536 ^ 12 := by rw [pow12]; omega
  have Hs := Lib.hid hs
  clear hs ha hb hc hd hab hcd
  have key : ∃ ch cl : Nat, (∀ W, Calls Try.prog 25 #[.agg #[.int .u64 (hiW (a * b)), .int .u64 (loW (a * b))], .agg #[.int .u64 (hiW (c * d)), .int .u64 (loW (c * d))]] W fun E w' => E = .returned (.tuple #[.agg #[.int .u64 (ch : Int), .int .u64 (cl : Int)], .int .i64 0]) ∧ Below W.heap.size W w') ∧
      ch * 18446744073709551616 + cl = a * b + c * d ∧ ch < 18446744073709551616 ∧ cl < 18446744073709551616 := by
    clear cP cQ cL cX cY s1 s2 Hs cW ha' hb' hc' hd'
    generalize a * b = p at *
    generalize c * d = q at *
    have h1 : 0 ≤ hiW p := by unfold hiW; omega
    have h2 : 0 ≤ loW p := by unfold loW; omega
    have h3 : 0 ≤ hiW q := by unfold hiW; omega
    have h4 : 0 ≤ loW q := by unfold loW; omega
    have hc0 : 0 ≤ carS (loW p) (loW q) := by unfold carS; omega
    have hc1 : carS (loW p) (loW q) ≤ 1 := by unfold carS loW; omega
    have ho : outS (hiW p) (hiW q) (carS (loW p) (loW q)) = 0 := by unfold outS carS hiW loW; omega
    have cA := fun W => wadd_ok _ _ _ _ h1 h2 h3 h4 hc0 hc1 ho W
    obtain ⟨ch, hch⟩ : ∃ ch : Nat, higS (hiW p) (hiW q) (carS (loW p) (loW q)) = (ch : Int) := Int.eq_ofNat_of_zero_le (by unfold higS; omega)
    obtain ⟨cl, hcl⟩ : ∃ cl : Nat, lowS (loW p) (loW q) = (cl : Int) := Int.eq_ofNat_of_zero_le (by unfold lowS; omega)
    rw [hch, hcl] at cA
    refine ⟨ch, cl, cA, ?_⟩
    unfold higS carS hiW loW at hch
    unfold lowS loW at hcl
    omega
  obtain ⟨ch, cl, cA, e1, e2, e3⟩ := key
  have s3 := Lib.hid (fun W g (hn : NumD W g (a * b + c * d)) => same_yes ch cl g e2 e3 W (by rw [e1]; exact hn))
  exact wide_pos a b c d (a * b) (c * d) ch cl _ _ _ _ _ ha' hb' hc' hd' Hs (Lib.hid rfl) cP cQ cL cX cY s1 s2 s3 (Lib.hid cA) cW w
end Go.Proofs.Ytmbkmljglajenaa
