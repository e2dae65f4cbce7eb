/-
  The walk of NumDivs.
-/
import Derived.Test.YtmbkmljglajenaaAwake
import Derived.Test.YtmbkmljglajenaaDigX
namespace Go.Proofs.Ytmbkmljglajenaa
open Go.RowKit
set_option linter.unusedVariables false

/-- What the law's own array holds, while callees make blocks behind it. -/
def Arr3 (w W : World) (a b c : Int) : Prop :=
  w.heap.size < W.heap.size ∧ Below w.heap.size w W ∧ W.cell? ⟨w.heap.size, 0, none⟩ = some (.int .i64 a) ∧ W.cell? ⟨w.heap.size, 1, none⟩ = some (.int .i64 b) ∧ W.cell? ⟨w.heap.size, 2, none⟩ = some (.int .i64 c)
theorem Arr3.next {w W W' : World} {a b c : Int} (h : Arr3 w W a b c) (hb : Below W.heap.size W W') : Arr3 w W' a b c := by
  obtain ⟨hz, hB, p0, p1, p2⟩ := h
  have hk : ∀ o, W'.cell? ⟨w.heap.size, o, none⟩ = W.cell? ⟨w.heap.size, o, none⟩ := fun o => hb.cell (p := ⟨w.heap.size, o, none⟩) hz
  exact ⟨Nat.lt_of_lt_of_le hz hb.size, hB.trans (hb.mono hB.size), (hk 0).trans p0, (hk 1).trans p1, (hk 2).trans p2⟩
theorem Arr3.start (w : World) (a b c : Int) (t : TypeId) : Arr3 w (w.alloc (.cells #[.int .i64 a, .int .i64 b, .int .i64 c] t)) a b c :=
  ⟨by simp, (Below.refl _ _).alloc (Nat.le_refl _) _, by simp [go_sem], by simp [go_sem], by simp [go_sem]⟩
theorem Arr3.done {w W W' : World} {a b c : Int} (h : Arr3 w W a b c) (hb : Below W.heap.size W W') : Below w.heap.size w W' := (h.next hb).2.1
theorem below_draws {w W : World} (n : Nat) (hb : Below (w.drewN n).heap.size (w.drewN n) W) : Below w.heap.size w W := ⟨hb.os, hb.tape, hb.output, hb.size, hb.block⟩
theorem below_draw2 (w : World) (n : Nat) : Below w.heap.size w (w.drewN n) := ⟨rfl, rfl, rfl, Nat.le_refl _, fun _ _ => rfl⟩

set_option maxRecDepth 20000 in
theorem divs_n1 (a b c : Int) (up : Bool) (h1 : decide (a < 0) = true) (cD : Hid (∀ W, Calls Try.prog 28 #[.int .i64 a, .int .i64 b, .int .i64 c, .bool up] W fun E w' => E = .returned (.tuple #[.int .i64 0, .int .i64 10]) ∧ Below W.heap.size W w')) (cA : Hid (∀ W, Calls Try.prog 11 #[] W fun E w' => E = .returned (.bool true) ∧ Below W.heap.size W w')) (w : World) :
    Calls Try.prog 6 #[.agg #[.int .i64 a, .int .i64 b, .int .i64 c], .bool up] w fun E w' => E = .returned (.bool true) ∧ Below w.heap.size w w' := by
  go_enter Try.func6, Try.ntmps6
  go_wp2_with fail
  refine (cD.out _).mono ?_
  rintro E w1 ⟨rfl, b1⟩
  have H1 := Lib.hid ((Arr3.start w a b c 50).next b1)
  obtain ⟨_, _, p0, p1, p2⟩ := H1.out
  go_wp2_with (go_at_call 11; refine (cA.out _).mono ?_; rintro E w2 ⟨rfl, b2⟩)
  go_ret
  exact ⟨rfl, H1.out.done b2⟩

set_option maxRecDepth 20000 in
theorem divs_n2 (a b c : Int) (up : Bool) (h1 : decide (a < 0) = false) (h2 : decide (b < 0) = true) (cD : Hid (∀ W, Calls Try.prog 28 #[.int .i64 a, .int .i64 b, .int .i64 c, .bool up] W fun E w' => E = .returned (.tuple #[.int .i64 0, .int .i64 10]) ∧ Below W.heap.size W w')) (cA : Hid (∀ W, Calls Try.prog 11 #[] W fun E w' => E = .returned (.bool true) ∧ Below W.heap.size W w')) (w : World) :
    Calls Try.prog 6 #[.agg #[.int .i64 a, .int .i64 b, .int .i64 c], .bool up] w fun E w' => E = .returned (.bool true) ∧ Below w.heap.size w w' := by
  go_enter Try.func6, Try.ntmps6
  go_wp2_with fail
  refine (cD.out _).mono ?_
  rintro E w1 ⟨rfl, b1⟩
  have H1 := Lib.hid ((Arr3.start w a b c 50).next b1)
  obtain ⟨_, _, p0, p1, p2⟩ := H1.out
  go_wp2_with (go_at_call 11; refine (cA.out _).mono ?_; rintro E w2 ⟨rfl, b2⟩)
  go_ret
  exact ⟨rfl, H1.out.done b2⟩

set_option maxRecDepth 20000 in
theorem divs_n3 (a b c : Int) (up : Bool) (h1 : decide (a < 0) = false) (h2 : decide (b < 0) = false) (h3 : decide (c < 0) = true) (cD : Hid (∀ W, Calls Try.prog 28 #[.int .i64 a, .int .i64 b, .int .i64 c, .bool up] W fun E w' => E = .returned (.tuple #[.int .i64 0, .int .i64 10]) ∧ Below W.heap.size W w')) (cA : Hid (∀ W, Calls Try.prog 11 #[] W fun E w' => E = .returned (.bool true) ∧ Below W.heap.size W w')) (w : World) :
    Calls Try.prog 6 #[.agg #[.int .i64 a, .int .i64 b, .int .i64 c], .bool up] w fun E w' => E = .returned (.bool true) ∧ Below w.heap.size w w' := by
  go_enter Try.func6, Try.ntmps6
  go_wp2_with fail
  refine (cD.out _).mono ?_
  rintro E w1 ⟨rfl, b1⟩
  have H1 := Lib.hid ((Arr3.start w a b c 50).next b1)
  obtain ⟨_, _, p0, p1, p2⟩ := H1.out
  go_wp2_with (go_at_call 11; refine (cA.out _).mono ?_; rintro E w2 ⟨rfl, b2⟩)
  go_ret
  exact ⟨rfl, H1.out.done b2⟩

set_option maxRecDepth 20000 in
theorem divs_z (a b c : Int) (up : Bool) (h1 : decide (a < 0) = false) (h2 : decide (b < 0) = false) (h3 : decide (c < 0) = false) (h4 : (c == 0) = true) (cD : Hid (∀ W, Calls Try.prog 28 #[.int .i64 a, .int .i64 b, .int .i64 c, .bool up] W fun E w' => E = .returned (.tuple #[.int .i64 0, .int .i64 12]) ∧ Below W.heap.size W w')) (cA : Hid (∀ W, Calls Try.prog 11 #[] W fun E w' => E = .returned (.bool true) ∧ Below W.heap.size W w')) (w : World) :
    Calls Try.prog 6 #[.agg #[.int .i64 a, .int .i64 b, .int .i64 c], .bool up] w fun E w' => E = .returned (.bool true) ∧ Below w.heap.size w w' := by
  go_enter Try.func6, Try.ntmps6
  go_wp2_with fail
  refine (cD.out _).mono ?_
  rintro E w1 ⟨rfl, b1⟩
  have H1 := Lib.hid ((Arr3.start w a b c 50).next b1)
  obtain ⟨_, _, p0, p1, p2⟩ := H1.out
  go_wp2_with (go_at_call 11; refine (cA.out _).mono ?_; rintro E w2 ⟨rfl, b2⟩)
  go_ret
  exact ⟨rfl, H1.out.done b2⟩

set_option maxRecDepth 20000 in
set_option maxHeartbeats 2000000 in
theorem divs_u1 (a b c n P R : Nat) (ha : a ≤ 9223372036854775807) (hb : b ≤ 9223372036854775807) (hc : c ≤ 9223372036854775807) (hn : n ≤ 9223372036854775807) (hc0 : 0 < c)
    (hs1 : Hid (P + c < 65536 ^ 12)) (hs2 : Hid (R + c < 65536 ^ 12))
    (f1 : Hid (decide (R < P) = false)) (f2 : Hid (decide (R < P + c) = true))
    (cD : Hid (∀ W, Calls Try.prog 28 #[.int .i64 (a : Int), .int .i64 (b : Int), .int .i64 (c : Int), .bool true] W fun E w' => E = .returned (.tuple #[.int .i64 (n : Int), .int .i64 0]) ∧ Below W.heap.size W w'))
    (cT : Hid (∀ W, Calls Try.prog 19 #[.int .u64 (a : Int), .int .u64 (b : Int)] W (Makes W P)))
    (cO : Hid (∀ W, Calls Try.prog 13 #[.int .u64 0, .int .u64 (c : Int)] W (Makes W c)))
    (cR : Hid (∀ W, Calls Try.prog 19 #[.int .u64 (n : Int), .int .u64 (c : Int)] W (Makes W R)))
    (cA : Hid (∀ W, Calls Try.prog 11 #[] W fun E w' => E = .returned (.bool true) ∧ Below W.heap.size W w')) (w : World) :
    Calls Try.prog 6 #[.agg #[.int .i64 (a : Int), .int .i64 (b : Int), .int .i64 (c : Int)], .bool true] w fun E w' => E = .returned (.bool true) ∧ Below w.heap.size w w' := by
  have ha' : decide ((a : Int) < 0) = false := by simp
  have hb' : decide ((b : Int) < 0) = false := by simp
  have hc' : decide ((c : Int) < 0) = false := by simp
  have hz' : ((c : Int) == 0) = false := by simp; omega
  go_enter Try.func6, Try.ntmps6
  go_wp2_with fail
  refine (cD.out _).mono ?_
  rintro E w1 ⟨rfl, b1⟩
  have H1 := Lib.hid ((Arr3.start w a b c 50).next b1)
  obtain ⟨_, _, p0, p1, p2⟩ := H1.out
  go_wp2_with fail
  refine (cT.out _).mono ?_
  rintro E w2 ⟨g2, rfl, n2, b2⟩
  have H2 := Lib.hid (H1.out.next b2)
  have N2 := Lib.hid n2
  clear p0 p1 p2 n2 b1 H1
  obtain ⟨_, _, p0, p1, p2⟩ := H2.out
  go_wp2_with fail
  refine (cO.out _).mono ?_
  rintro E w3 ⟨g3, rfl, n3, b3⟩
  have H3 := Lib.hid (H2.out.next b3)
  have N3 := Lib.hid n3
  have N2' := Lib.hid (N2.out.next b3)
  clear p0 p1 p2 n3 b2 H2 N2
  obtain ⟨_, _, p0, p1, p2⟩ := H3.out
  go_wp2_with fail
  refine (cR.out _).mono ?_
  rintro E w4 ⟨g4, rfl, n4, b4⟩
  have H4 := Lib.hid (H3.out.next b4)
  have N4 := Lib.hid n4
  have M2 := Lib.hid (N2'.out.next b4)
  have M3 := Lib.hid (N3.out.next b4)
  clear p0 p1 p2 n4 b3 b4 H3 N2' N3
  have u1 := Lib.hid (fun W (hx : NumD W g4 R) (hy : NumD W g2 P) => under_any g4 g2 12 12 R P W hx hy)
  rw [f1.out] at u1
  go_wp2_with fail
  refine (u1.out _ N4.out M2.out).mono ?_
  rintro E w' ⟨rfl, d1, rfl⟩
  have pl := Lib.hid (fun W (hx : NumD W g2 P) (hy : NumD W g3 c) => plus_any g2 g3 12 12 P c W hx hy hs1.out)
  go_wp2_with fail
  refine (pl.out _ (M2.out.drewN d1) (M3.out.drewN d1)).mono ?_
  rintro E w5 ⟨g5, rfl, n5, b5⟩
  have B5 := Lib.hid (below_draws d1 b5)
  have N5 := Lib.hid n5
  clear n5 b5
  have u2 := Lib.hid (fun W (hx : NumD W g4 R) (hy : NumD W g5 (P + c)) => under_any g4 g5 12 12 R (P + c) W hx hy)
  rw [f2.out] at u2
  go_wp2_with fail
  refine (u2.out _ (N4.out.next B5.out) N5.out).mono ?_
  rintro E w' ⟨rfl, d2, rfl⟩
  go_wp2_with fail
  refine (cA.out _).mono ?_
  rintro E w6 ⟨rfl, b6⟩
  go_wp2
  go_ret
  exact ⟨rfl, (H4.out.next B5.out).done (below_draws d2 b6)⟩

set_option maxRecDepth 20000 in
set_option maxHeartbeats 2000000 in
theorem divs_d1 (a b c n P R : Nat) (ha : a ≤ 9223372036854775807) (hb : b ≤ 9223372036854775807) (hc : c ≤ 9223372036854775807) (hn : n ≤ 9223372036854775807) (hc0 : 0 < c)
    (hs1 : Hid (P + c < 65536 ^ 12)) (hs2 : Hid (R + c < 65536 ^ 12))
    (f1 : Hid (decide (P < R) = false)) (f2 : Hid (decide (P < R + c) = true))
    (cD : Hid (∀ W, Calls Try.prog 28 #[.int .i64 (a : Int), .int .i64 (b : Int), .int .i64 (c : Int), .bool false] W fun E w' => E = .returned (.tuple #[.int .i64 (n : Int), .int .i64 0]) ∧ Below W.heap.size W w'))
    (cT : Hid (∀ W, Calls Try.prog 19 #[.int .u64 (a : Int), .int .u64 (b : Int)] W (Makes W P)))
    (cO : Hid (∀ W, Calls Try.prog 13 #[.int .u64 0, .int .u64 (c : Int)] W (Makes W c)))
    (cR : Hid (∀ W, Calls Try.prog 19 #[.int .u64 (n : Int), .int .u64 (c : Int)] W (Makes W R)))
    (cA : Hid (∀ W, Calls Try.prog 11 #[] W fun E w' => E = .returned (.bool true) ∧ Below W.heap.size W w')) (w : World) :
    Calls Try.prog 6 #[.agg #[.int .i64 (a : Int), .int .i64 (b : Int), .int .i64 (c : Int)], .bool false] w fun E w' => E = .returned (.bool true) ∧ Below w.heap.size w w' := by
  have ha' : decide ((a : Int) < 0) = false := by simp
  have hb' : decide ((b : Int) < 0) = false := by simp
  have hc' : decide ((c : Int) < 0) = false := by simp
  have hz' : ((c : Int) == 0) = false := by simp; omega
  go_enter Try.func6, Try.ntmps6
  go_wp2_with fail
  refine (cD.out _).mono ?_
  rintro E w1 ⟨rfl, b1⟩
  have H1 := Lib.hid ((Arr3.start w a b c 50).next b1)
  obtain ⟨_, _, p0, p1, p2⟩ := H1.out
  go_wp2_with fail
  refine (cT.out _).mono ?_
  rintro E w2 ⟨g2, rfl, n2, b2⟩
  have H2 := Lib.hid (H1.out.next b2)
  have N2 := Lib.hid n2
  clear p0 p1 p2 n2 b1 H1
  obtain ⟨_, _, p0, p1, p2⟩ := H2.out
  go_wp2_with fail
  refine (cO.out _).mono ?_
  rintro E w3 ⟨g3, rfl, n3, b3⟩
  have H3 := Lib.hid (H2.out.next b3)
  have N3 := Lib.hid n3
  have N2' := Lib.hid (N2.out.next b3)
  clear p0 p1 p2 n3 b2 H2 N2
  obtain ⟨_, _, p0, p1, p2⟩ := H3.out
  go_wp2_with fail
  refine (cR.out _).mono ?_
  rintro E w4 ⟨g4, rfl, n4, b4⟩
  have H4 := Lib.hid (H3.out.next b4)
  have N4 := Lib.hid n4
  have M2 := Lib.hid (N2'.out.next b4)
  have M3 := Lib.hid (N3.out.next b4)
  clear p0 p1 p2 n4 b3 b4 H3 N2' N3
  have u1 := Lib.hid (fun W (hx : NumD W g2 P) (hy : NumD W g4 R) => under_any g2 g4 12 12 P R W hx hy)
  rw [f1.out] at u1
  go_wp2_with fail
  refine (u1.out _ M2.out N4.out).mono ?_
  rintro E w' ⟨rfl, d1, rfl⟩
  have pl := Lib.hid (fun W (hx : NumD W g4 R) (hy : NumD W g3 c) => plus_any g4 g3 12 12 R c W hx hy hs2.out)
  go_wp2_with fail
  refine (pl.out _ (N4.out.drewN d1) (M3.out.drewN d1)).mono ?_
  rintro E w5 ⟨g5, rfl, n5, b5⟩
  have B5 := Lib.hid (below_draws d1 b5)
  have N5 := Lib.hid n5
  clear n5 b5
  have u2 := Lib.hid (fun W (hx : NumD W g2 P) (hy : NumD W g5 (R + c)) => under_any g2 g5 12 12 P (R + c) W hx hy)
  rw [f2.out] at u2
  go_wp2_with fail
  refine (u2.out _ (M2.out.next B5.out) N5.out).mono ?_
  rintro E w' ⟨rfl, d2, rfl⟩
  go_wp2_with fail
  refine (cA.out _).mono ?_
  rintro E w6 ⟨rfl, b6⟩
  go_wp2
  go_ret
  exact ⟨rfl, (H4.out.next B5.out).done (below_draws d2 b6)⟩

set_option maxRecDepth 20000 in
set_option maxHeartbeats 2000000 in
theorem divs_u2 (a b c n P R : Nat) (ha : a ≤ 9223372036854775807) (hb : b ≤ 9223372036854775807) (hc : c ≤ 9223372036854775807) (hn : n ≤ 9223372036854775807) (hc0 : 0 < c)
    (hs1 : Hid (P + c < 65536 ^ 12)) (hs2 : Hid (R + c < 65536 ^ 12))
    (f1 : Hid (decide (R < P) = true))
    (cD : Hid (∀ W, Calls Try.prog 28 #[.int .i64 (a : Int), .int .i64 (b : Int), .int .i64 (c : Int), .bool true] W fun E w' => E = .returned (.tuple #[.int .i64 0, .int .i64 11]) ∧ Below W.heap.size W w'))
    (cT : Hid (∀ W, Calls Try.prog 19 #[.int .u64 (a : Int), .int .u64 (b : Int)] W (Makes W P)))
    (cO : Hid (∀ W, Calls Try.prog 13 #[.int .u64 0, .int .u64 (c : Int)] W (Makes W c)))
    (cR : Hid (∀ W, Calls Try.prog 19 #[.int .u64 9223372036854775807, .int .u64 (c : Int)] W (Makes W R)))
    (cA : Hid (∀ W, Calls Try.prog 11 #[] W fun E w' => E = .returned (.bool true) ∧ Below W.heap.size W w')) (w : World) :
    Calls Try.prog 6 #[.agg #[.int .i64 (a : Int), .int .i64 (b : Int), .int .i64 (c : Int)], .bool true] w fun E w' => E = .returned (.bool true) ∧ Below w.heap.size w w' := by
  have ha' : decide ((a : Int) < 0) = false := by simp
  have hb' : decide ((b : Int) < 0) = false := by simp
  have hc' : decide ((c : Int) < 0) = false := by simp
  have hz' : ((c : Int) == 0) = false := by simp; omega
  go_enter Try.func6, Try.ntmps6
  go_wp2_with fail
  refine (cD.out _).mono ?_
  rintro E w1 ⟨rfl, b1⟩
  have H1 := Lib.hid ((Arr3.start w a b c 50).next b1)
  obtain ⟨_, _, p0, p1, p2⟩ := H1.out
  go_wp2_with fail
  refine (cT.out _).mono ?_
  rintro E w2 ⟨g2, rfl, n2, b2⟩
  have H2 := Lib.hid (H1.out.next b2)
  have N2 := Lib.hid n2
  clear p0 p1 p2 n2 b1 H1
  obtain ⟨_, _, p0, p1, p2⟩ := H2.out
  go_wp2_with fail
  refine (cO.out _).mono ?_
  rintro E w3 ⟨g3, rfl, n3, b3⟩
  have H3 := Lib.hid (H2.out.next b3)
  have N3 := Lib.hid n3
  have N2' := Lib.hid (N2.out.next b3)
  clear p0 p1 p2 n3 b2 H2 N2
  obtain ⟨_, _, p0, p1, p2⟩ := H3.out
  go_wp2_with fail
  refine (cR.out _).mono ?_
  rintro E w4 ⟨g4, rfl, n4, b4⟩
  have H4 := Lib.hid (H3.out.next b4)
  have N4 := Lib.hid n4
  have M2 := Lib.hid (N2'.out.next b4)
  have M3 := Lib.hid (N3.out.next b4)
  clear p0 p1 p2 n4 b3 b4 H3 N2' N3
  have u1 := Lib.hid (fun W (hx : NumD W g4 R) (hy : NumD W g2 P) => under_any g4 g2 12 12 R P W hx hy)
  rw [f1.out] at u1
  go_wp2_with fail
  refine (u1.out _ N4.out M2.out).mono ?_
  rintro E w' ⟨rfl, d1, rfl⟩
  go_wp2_with fail
  refine (cA.out _).mono ?_
  rintro E w6 ⟨rfl, b6⟩
  go_wp2
  go_ret
  exact ⟨rfl, H4.out.done (below_draws d1 b6)⟩

set_option maxRecDepth 20000 in
set_option maxHeartbeats 2000000 in
theorem divs_d2 (a b c n P R : Nat) (ha : a ≤ 9223372036854775807) (hb : b ≤ 9223372036854775807) (hc : c ≤ 9223372036854775807) (hn : n ≤ 9223372036854775807) (hc0 : 0 < c)
    (hs1 : Hid (P + c < 65536 ^ 12)) (hs2 : Hid (R + c < 65536 ^ 12))
    (f2 : Hid (decide (P < R + c) = false))
    (cD : Hid (∀ W, Calls Try.prog 28 #[.int .i64 (a : Int), .int .i64 (b : Int), .int .i64 (c : Int), .bool false] W fun E w' => E = .returned (.tuple #[.int .i64 0, .int .i64 11]) ∧ Below W.heap.size W w'))
    (cT : Hid (∀ W, Calls Try.prog 19 #[.int .u64 (a : Int), .int .u64 (b : Int)] W (Makes W P)))
    (cO : Hid (∀ W, Calls Try.prog 13 #[.int .u64 0, .int .u64 (c : Int)] W (Makes W c)))
    (cR : Hid (∀ W, Calls Try.prog 19 #[.int .u64 9223372036854775807, .int .u64 (c : Int)] W (Makes W R)))
    (cA : Hid (∀ W, Calls Try.prog 11 #[] W fun E w' => E = .returned (.bool true) ∧ Below W.heap.size W w')) (w : World) :
    Calls Try.prog 6 #[.agg #[.int .i64 (a : Int), .int .i64 (b : Int), .int .i64 (c : Int)], .bool false] w fun E w' => E = .returned (.bool true) ∧ Below w.heap.size w w' := by
  have ha' : decide ((a : Int) < 0) = false := by simp
  have hb' : decide ((b : Int) < 0) = false := by simp
  have hc' : decide ((c : Int) < 0) = false := by simp
  have hz' : ((c : Int) == 0) = false := by simp; omega
  go_enter Try.func6, Try.ntmps6
  go_wp2_with fail
  refine (cD.out _).mono ?_
  rintro E w1 ⟨rfl, b1⟩
  have H1 := Lib.hid ((Arr3.start w a b c 50).next b1)
  obtain ⟨_, _, p0, p1, p2⟩ := H1.out
  go_wp2_with fail
  refine (cT.out _).mono ?_
  rintro E w2 ⟨g2, rfl, n2, b2⟩
  have H2 := Lib.hid (H1.out.next b2)
  have N2 := Lib.hid n2
  clear p0 p1 p2 n2 b1 H1
  obtain ⟨_, _, p0, p1, p2⟩ := H2.out
  go_wp2_with fail
  refine (cO.out _).mono ?_
  rintro E w3 ⟨g3, rfl, n3, b3⟩
  have H3 := Lib.hid (H2.out.next b3)
  have N3 := Lib.hid n3
  have N2' := Lib.hid (N2.out.next b3)
  clear p0 p1 p2 n3 b2 H2 N2
  obtain ⟨_, _, p0, p1, p2⟩ := H3.out
  go_wp2_with fail
  refine (cR.out _).mono ?_
  rintro E w4 ⟨g4, rfl, n4, b4⟩
  have H4 := Lib.hid (H3.out.next b4)
  have N4 := Lib.hid n4
  have M2 := Lib.hid (N2'.out.next b4)
  have M3 := Lib.hid (N3.out.next b4)
  clear p0 p1 p2 n4 b3 b4 H3 N2' N3
  have pl := Lib.hid (fun W (hx : NumD W g4 R) (hy : NumD W g3 c) => plus_any g4 g3 12 12 R c W hx hy hs2.out)
  go_wp2_with fail
  refine (pl.out _ N4.out M3.out).mono ?_
  rintro E w5 ⟨g5, rfl, n5, b5⟩
  have B5 := Lib.hid b5
  have N5 := Lib.hid n5
  clear n5 b5
  have u2 := Lib.hid (fun W (hx : NumD W g2 P) (hy : NumD W g5 (R + c)) => under_any g2 g5 12 12 P (R + c) W hx hy)
  rw [f2.out] at u2
  go_wp2_with fail
  refine (u2.out _ (M2.out.next B5.out) N5.out).mono ?_
  rintro E w' ⟨rfl, d2, rfl⟩
  go_wp2_with fail
  refine (cA.out _).mono ?_
  rintro E w6 ⟨rfl, b6⟩
  go_wp2
  go_ret
  exact ⟨rfl, (H4.out.next B5.out).done (below_draws d2 b6)⟩

theorem pow12 : (65536 : Nat) ^ 12 = 6277101735386680763835789423207666416102355444464034512896 := by decide
theorem prod_small {a b c : Nat} (ha : a ≤ 9223372036854775807) (hb : b ≤ 9223372036854775807) (hc : c ≤ 9223372036854775807) : a * b + c < 65536 ^ 12 := by
  have : a * b ≤ 9223372036854775807 * 9223372036854775807 := Nat.mul_le_mul ha hb
  rw [pow12]
  omega

theorem divQ_down_le {P c : Nat} (hc : 0 < c) : P / c * c ≤ P ∧ P < P / c * c + c := by
  have h1 := Nat.div_mul_le_self P c
  have h2 := Nat.lt_div_mul_add (a := P) hc
  exact ⟨h1, h2⟩
/-- The quotient, rounded up, times the divisor. -/
theorem divQ_up {a b c : Nat} (hc : 0 < c) : a * b ≤ divQ a b c true * c ∧ divQ a b c true * c < a * b + c := by
  obtain ⟨h1, h2⟩ := divQ_down_le (P := a * b) hc
  by_cases h : a * b / c * c = a * b
  · rw [divQ_exact a b c h, h]
    omega
  · rw [divQ_more a b c h, Nat.add_mul, Nat.one_mul]
    omega

theorem walk_NumDivs (a b c : Int) (up : Bool) (w : World) (ha : -9223372036854775808 ≤ a ∧ a ≤ 9223372036854775807) (hb : -9223372036854775808 ≤ b ∧ b ≤ 9223372036854775807) (hc : -9223372036854775808 ≤ c ∧ c ≤ 9223372036854775807) :
    Calls Try.prog 6 #[.agg #[.int .i64 a, .int .i64 b, .int .i64 c], .bool up] w fun E w' => E = .returned (.bool true) ∧ Below w.heap.size w w' := by
  have cD := fun W => div_any a b c up ha hb hc W
  have cA := Lib.hid (fun W => awake_any W)
  by_cases hneg : a < 0 ∨ b < 0 ∨ c < 0
  · have e : divR a b c up = (0, 10) := if_pos hneg
    rw [e] at cD
    by_cases h1 : a < 0
    · exact divs_n1 a b c up (by simpa using h1) (Lib.hid cD) cA w
    by_cases h2 : b < 0
    · exact divs_n2 a b c up (by simpa using h1) (by simpa using h2) (Lib.hid cD) cA w
    · exact divs_n3 a b c up (by simpa using h1) (by simpa using h2) (by simp; omega) (Lib.hid cD) cA w
  obtain ⟨a, rfl⟩ := Int.eq_ofNat_of_zero_le (by omega : 0 ≤ a)
  obtain ⟨b, rfl⟩ := Int.eq_ofNat_of_zero_le (by omega : 0 ≤ b)
  obtain ⟨c, rfl⟩ := Int.eq_ofNat_of_zero_le (by omega : 0 ≤ c)
  by_cases hz : c = 0
  · subst hz
    have e : divR a b ((0 : Nat) : Int) up = (0, 12) := by
      unfold divR
      rw [if_neg (by omega), if_pos (by omega)]
    rw [e] at cD
    exact divs_z a b ((0 : Nat) : Int) up (by simp) (by simp) (by simp) (by simp) (Lib.hid cD) cA w
  have hc0 : 0 < c := by omega
  have ha' : a ≤ 9223372036854775807 := by omega
  have hb' : b ≤ 9223372036854775807 := by omega
  have hc' : c ≤ 9223372036854775807 := by omega
  rw [divR_of a b c up hc0] at cD
  have cT := Lib.hid (fun W => times_dig a b (by omega) (by omega) W)
  have cO := Lib.hid (fun W => of_any 0 c (by omega) (by omega) W)
  rw [Nat.zero_mul, Nat.zero_add] at cO
  have s1 := Lib.hid (prod_small ha' hb' hc')
  by_cases hf : divQ a b c up ≤ 9223372036854775807
  · rw [if_pos hf] at cD
    have cR := Lib.hid (fun W => times_dig (divQ a b c up) c (by omega) (by omega) W)
    have s2 := Lib.hid (prod_small hf hc' hc')
    cases up with
    | true =>
      obtain ⟨q1, q2⟩ := divQ_up (a := a) (b := b) hc0
      exact divs_u1 a b c _ (a * b) _ ha' hb' hc' hf hc0 s1 s2 (decide_eq_false (by omega)) (decide_eq_true (by omega)) (Lib.hid cD) cT cO cR cA w
    | false =>
      obtain ⟨q1, q2⟩ := divQ_down_le (P := a * b) hc0
      rw [← divQ_down a b c] at q1 q2
      exact divs_d1 a b c _ (a * b) _ ha' hb' hc' hf hc0 s1 s2 (decide_eq_false (by omega)) (decide_eq_true (by omega)) (Lib.hid cD) cT cO cR cA w
  · rw [if_neg hf] at cD
    have cR := Lib.hid (fun W => times_dig 9223372036854775807 c (by omega) (by omega) W)
    have s2 := Lib.hid (prod_small (a := 9223372036854775807) (Nat.le_refl _) hc' hc')
    cases up with
    | true =>
      obtain ⟨q1, q2⟩ := divQ_up (a := a) (b := b) hc0
      have q3 : (9223372036854775807 + 1) * c ≤ divQ a b c true * c := Nat.mul_le_mul_right _ (by omega)
      rw [Nat.add_mul, Nat.one_mul] at q3
      exact divs_u2 a b c 0 (a * b) _ ha' hb' hc' (by omega) hc0 s1 s2 (decide_eq_true (by omega)) (Lib.hid cD) cT cO cR cA w
    | false =>
      obtain ⟨q1, q2⟩ := divQ_down_le (P := a * b) hc0
      rw [← divQ_down a b c] at q1 q2
      have q3 : (9223372036854775807 + 1) * c ≤ divQ a b c false * c := Nat.mul_le_mul_right _ (by omega)
      rw [Nat.add_mul, Nat.one_mul] at q3
      exact divs_d2 a b c 0 (a * b) _ ha' hb' hc' (by omega) hc0 s1 s2 (decide_eq_false (by omega)) (Lib.hid cD) cT cO cR cA w
end Go.Proofs.Ytmbkmljglajenaa
