/-
  What the document's answer for layer 2 says of three numbers of which the first two are divided by the third (Is, Over, Wrong), and the law's own told.
-/
import Derived.Test.YthindhclcdbnfaaRatW
import Derived.Test.YthindhclcdbnfaaDigX
namespace Go.Proofs.Ythindhclcdbnfaa
open Go.RowKit
set_option linter.unusedVariables false

set_option maxRecDepth 20000 in
set_option maxHeartbeats 2000000 in
theorem is_up (a b c n P R : Nat) (ha : a ≤ 9223372036854775807) (hb : b ≤ 9223372036854775807) (hc : c ≤ 9223372036854775807) (hn : n ≤ 9223372036854775807)
    (hs1 : Hid (P + c < 65536 ^ 12)) (f1 : Hid (decide (R < P) = false)) (f2 : Hid (decide (R < P + c) = true))
    (cT : Hid (∀ W, Calls Try.prog 33 #[.int .u64 (a : Int), .int .u64 (b : Int)] W (Makes W P)))
    (cO : Hid (∀ W, Calls Try.prog 34 #[.int .u64 0, .int .u64 (c : Int)] W (Makes W c)))
    (cR : Hid (∀ W, Calls Try.prog 33 #[.int .u64 (n : Int), .int .u64 (c : Int)] W (Makes W R))) (w : World) :
    Calls Try.prog 24 #[.int .i64 (n : Int), .agg #[.int .i64 (a : Int), .int .i64 (b : Int), .int .i64 (c : Int)], .bool true] w fun E w' => E = .returned (.bool true) ∧ Below w.heap.size w w' := by
  have hn' : decide ((n : Int) < 0) = false := by simp
  go_enter Try.func24, Try.ntmps24
  go_wp2_with fail
  refine (cT.out _).mono ?_
  rintro E w2 ⟨g2, rfl, n2, b2⟩
  have H2 := Lib.hid ((Arr3.start w a b c 27).next b2)
  have N2 := Lib.hid n2
  clear n2
  obtain ⟨_, _, p0, p1, p2⟩ := H2.out
  go_wp2_with fail
  refine (cO.out _).mono ?_
  rintro E w3 ⟨g3, rfl, n3, b3⟩
  have H3 := Lib.hid (H2.out.next b3)
  have N3 := Lib.hid n3
  have N2' := Lib.hid (N2.out.next b3)
  clear p0 p1 p2 n3 b2 H2 N2
  obtain ⟨_, _, p0, p1, p2⟩ := H3.out
  go_wp2_with fail
  refine (cR.out _).mono ?_
  rintro E w4 ⟨g4, rfl, n4, b4⟩
  have H4 := Lib.hid (H3.out.next b4)
  have N4 := Lib.hid n4
  have M2 := Lib.hid (N2'.out.next b4)
  have M3 := Lib.hid (N3.out.next b4)
  clear p0 p1 p2 n4 b3 b4 H3 N2' N3
  have u1 := Lib.hid (fun W (hx : NumD W g4 R) (hy : NumD W g2 P) => under_any g4 g2 12 12 R P W hx hy)
  rw [f1.out] at u1
  go_wp2_with fail
  refine (u1.out _ N4.out M2.out).mono ?_
  rintro E w' ⟨rfl, d1, rfl⟩
  have pl := Lib.hid (fun W (hx : NumD W g2 P) (hy : NumD W g3 c) => plus_any g2 g3 12 12 P c W hx hy hs1.out)
  go_wp2_with fail
  refine (pl.out _ (M2.out.drewN d1) (M3.out.drewN d1)).mono ?_
  rintro E w5 ⟨g5, rfl, n5, b5⟩
  have B5 := Lib.hid (below_draws d1 b5)
  have N5 := Lib.hid n5
  clear n5 b5
  have u2 := Lib.hid (fun W (hx : NumD W g4 R) (hy : NumD W g5 (P + c)) => under_any g4 g5 12 12 R (P + c) W hx hy)
  rw [f2.out] at u2
  go_wp2_with fail
  refine (u2.out _ (N4.out.next B5.out) N5.out).mono ?_
  rintro E w' ⟨rfl, d2, rfl⟩
  go_wp2
  go_ret
  exact ⟨rfl, below_drewN (H4.out.done B5.out) d2⟩

set_option maxRecDepth 20000 in
set_option maxHeartbeats 2000000 in
theorem is_down (a b c n P R : Nat) (ha : a ≤ 9223372036854775807) (hb : b ≤ 9223372036854775807) (hc : c ≤ 9223372036854775807) (hn : n ≤ 9223372036854775807)
    (hs2 : Hid (R + c < 65536 ^ 12)) (f1 : Hid (decide (P < R) = false)) (f2 : Hid (decide (P < R + c) = true))
    (cT : Hid (∀ W, Calls Try.prog 33 #[.int .u64 (a : Int), .int .u64 (b : Int)] W (Makes W P)))
    (cO : Hid (∀ W, Calls Try.prog 34 #[.int .u64 0, .int .u64 (c : Int)] W (Makes W c)))
    (cR : Hid (∀ W, Calls Try.prog 33 #[.int .u64 (n : Int), .int .u64 (c : Int)] W (Makes W R))) (w : World) :
    Calls Try.prog 24 #[.int .i64 (n : Int), .agg #[.int .i64 (a : Int), .int .i64 (b : Int), .int .i64 (c : Int)], .bool false] w fun E w' => E = .returned (.bool true) ∧ Below w.heap.size w w' := by
  have hn' : decide ((n : Int) < 0) = false := by simp
  go_enter Try.func24, Try.ntmps24
  go_wp2_with fail
  refine (cT.out _).mono ?_
  rintro E w2 ⟨g2, rfl, n2, b2⟩
  have H2 := Lib.hid ((Arr3.start w a b c 27).next b2)
  have N2 := Lib.hid n2
  clear n2
  obtain ⟨_, _, p0, p1, p2⟩ := H2.out
  go_wp2_with fail
  refine (cO.out _).mono ?_
  rintro E w3 ⟨g3, rfl, n3, b3⟩
  have H3 := Lib.hid (H2.out.next b3)
  have N3 := Lib.hid n3
  have N2' := Lib.hid (N2.out.next b3)
  clear p0 p1 p2 n3 b2 H2 N2
  obtain ⟨_, _, p0, p1, p2⟩ := H3.out
  go_wp2_with fail
  refine (cR.out _).mono ?_
  rintro E w4 ⟨g4, rfl, n4, b4⟩
  have H4 := Lib.hid (H3.out.next b4)
  have N4 := Lib.hid n4
  have M2 := Lib.hid (N2'.out.next b4)
  have M3 := Lib.hid (N3.out.next b4)
  clear p0 p1 p2 n4 b3 b4 H3 N2' N3
  have u1 := Lib.hid (fun W (hx : NumD W g2 P) (hy : NumD W g4 R) => under_any g2 g4 12 12 P R W hx hy)
  rw [f1.out] at u1
  go_wp2_with fail
  refine (u1.out _ M2.out N4.out).mono ?_
  rintro E w' ⟨rfl, d1, rfl⟩
  have pl := Lib.hid (fun W (hx : NumD W g4 R) (hy : NumD W g3 c) => plus_any g4 g3 12 12 R c W hx hy hs2.out)
  go_wp2_with fail
  refine (pl.out _ (N4.out.drewN d1) (M3.out.drewN d1)).mono ?_
  rintro E w5 ⟨g5, rfl, n5, b5⟩
  have B5 := Lib.hid (below_draws d1 b5)
  have N5 := Lib.hid n5
  clear n5 b5
  have u2 := Lib.hid (fun W (hx : NumD W g2 P) (hy : NumD W g5 (R + c)) => under_any g2 g5 12 12 P (R + c) W hx hy)
  rw [f2.out] at u2
  go_wp2_with fail
  refine (u2.out _ (M2.out.next B5.out) N5.out).mono ?_
  rintro E w' ⟨rfl, d2, rfl⟩
  go_wp2
  go_ret
  exact ⟨rfl, below_drewN (H4.out.done B5.out) d2⟩

set_option maxRecDepth 20000 in
set_option maxHeartbeats 2000000 in
theorem over_up (a b c P R : Nat) (o : Bool) (ha : a ≤ 9223372036854775807) (hb : b ≤ 9223372036854775807) (hc : c ≤ 9223372036854775807)
    (f1 : Hid (decide (R < P) = o))
    (cT : Hid (∀ W, Calls Try.prog 33 #[.int .u64 (a : Int), .int .u64 (b : Int)] W (Makes W P)))
    (cO : Hid (∀ W, Calls Try.prog 34 #[.int .u64 0, .int .u64 (c : Int)] W (Makes W c)))
    (cR : Hid (∀ W, Calls Try.prog 33 #[.int .u64 9223372036854775807, .int .u64 (c : Int)] W (Makes W R))) (w : World) :
    Calls Try.prog 32 #[.agg #[.int .i64 (a : Int), .int .i64 (b : Int), .int .i64 (c : Int)], .bool true] w fun E w' => E = .returned (.bool o) ∧ Below w.heap.size w w' := by
  go_enter Try.func32, Try.ntmps32
  go_wp2_with fail
  refine (cT.out _).mono ?_
  rintro E w2 ⟨g2, rfl, n2, b2⟩
  have H2 := Lib.hid ((Arr3.start w a b c 27).next b2)
  have N2 := Lib.hid n2
  clear n2
  obtain ⟨_, _, p0, p1, p2⟩ := H2.out
  go_wp2_with fail
  refine (cO.out _).mono ?_
  rintro E w3 ⟨g3, rfl, n3, b3⟩
  have H3 := Lib.hid (H2.out.next b3)
  have N3 := Lib.hid n3
  have N2' := Lib.hid (N2.out.next b3)
  clear p0 p1 p2 n3 b2 H2 N2
  obtain ⟨_, _, p0, p1, p2⟩ := H3.out
  go_wp2_with fail
  refine (cR.out _).mono ?_
  rintro E w4 ⟨g4, rfl, n4, b4⟩
  have H4 := Lib.hid (H3.out.next b4)
  have N4 := Lib.hid n4
  have M2 := Lib.hid (N2'.out.next b4)
  have M3 := Lib.hid (N3.out.next b4)
  clear p0 p1 p2 n4 b3 b4 H3 N2' N3
  have u1 := Lib.hid (fun W (hx : NumD W g4 R) (hy : NumD W g2 P) => under_any g4 g2 12 12 R P W hx hy)
  rw [f1.out] at u1
  go_wp2_with fail
  refine (u1.out _ N4.out M2.out).mono ?_
  rintro E w' ⟨rfl, d1, rfl⟩
  go_wp2
  go_ret
  exact ⟨rfl, below_drewN H4.out.2.1 d1⟩

set_option maxRecDepth 20000 in
set_option maxHeartbeats 2000000 in
theorem over_down (a b c P R : Nat) (o : Bool) (ha : a ≤ 9223372036854775807) (hb : b ≤ 9223372036854775807) (hc : c ≤ 9223372036854775807)
    (hs2 : Hid (R + c < 65536 ^ 12)) (f1 : Hid (decide (P < R + c) = !o))
    (cT : Hid (∀ W, Calls Try.prog 33 #[.int .u64 (a : Int), .int .u64 (b : Int)] W (Makes W P)))
    (cO : Hid (∀ W, Calls Try.prog 34 #[.int .u64 0, .int .u64 (c : Int)] W (Makes W c)))
    (cR : Hid (∀ W, Calls Try.prog 33 #[.int .u64 9223372036854775807, .int .u64 (c : Int)] W (Makes W R))) (w : World) :
    Calls Try.prog 32 #[.agg #[.int .i64 (a : Int), .int .i64 (b : Int), .int .i64 (c : Int)], .bool false] w fun E w' => E = .returned (.bool o) ∧ Below w.heap.size w w' := by
  go_enter Try.func32, Try.ntmps32
  go_wp2_with fail
  refine (cT.out _).mono ?_
  rintro E w2 ⟨g2, rfl, n2, b2⟩
  have H2 := Lib.hid ((Arr3.start w a b c 27).next b2)
  have N2 := Lib.hid n2
  clear n2
  obtain ⟨_, _, p0, p1, p2⟩ := H2.out
  go_wp2_with fail
  refine (cO.out _).mono ?_
  rintro E w3 ⟨g3, rfl, n3, b3⟩
  have H3 := Lib.hid (H2.out.next b3)
  have N3 := Lib.hid n3
  have N2' := Lib.hid (N2.out.next b3)
  clear p0 p1 p2 n3 b2 H2 N2
  obtain ⟨_, _, p0, p1, p2⟩ := H3.out
  go_wp2_with fail
  refine (cR.out _).mono ?_
  rintro E w4 ⟨g4, rfl, n4, b4⟩
  have H4 := Lib.hid (H3.out.next b4)
  have N4 := Lib.hid n4
  have M2 := Lib.hid (N2'.out.next b4)
  have M3 := Lib.hid (N3.out.next b4)
  clear p0 p1 p2 n4 b3 b4 H3 N2' N3
  have pl := Lib.hid (fun W (hx : NumD W g4 R) (hy : NumD W g3 c) => plus_any g4 g3 12 12 R c W hx hy hs2.out)
  go_wp2_with fail
  refine (pl.out _ N4.out M3.out).mono ?_
  rintro E w5 ⟨g5, rfl, n5, b5⟩
  have B5 := Lib.hid b5
  have N5 := Lib.hid n5
  clear n5 b5
  have u2 := Lib.hid (fun W (hx : NumD W g2 P) (hy : NumD W g5 (R + c)) => under_any g2 g5 12 12 P (R + c) W hx hy)
  rw [f1.out] at u2
  go_wp2_with fail
  refine (u2.out _ (M2.out.next B5.out) N5.out).mono ?_
  rintro E w' ⟨rfl, d2, rfl⟩
  go_wp2
  go_ret
  exact ⟨by simp, below_drewN (H4.out.done B5.out) d2⟩

theorem wrong_n1 (a b c : Int) (up : Bool) (h1 : decide (a < 0) = true) (w : World) :
    Calls Try.prog 23 #[.agg #[.int .i64 a, .int .i64 b, .int .i64 c], .bool up] w fun E w' => E = .returned (.int .i64 10) ∧ Below w.heap.size w w' := by
  go_enter Try.func23, Try.ntmps23
  go_wp2
  go_ret
  exact ⟨rfl, (Below.refl _ _).alloc (Nat.le_refl _) _⟩

theorem wrong_n2 (a b c : Int) (up : Bool) (h1 : decide (a < 0) = false) (h2 : decide (b < 0) = true) (w : World) :
    Calls Try.prog 23 #[.agg #[.int .i64 a, .int .i64 b, .int .i64 c], .bool up] w fun E w' => E = .returned (.int .i64 10) ∧ Below w.heap.size w w' := by
  go_enter Try.func23, Try.ntmps23
  go_wp2
  go_ret
  exact ⟨rfl, (Below.refl _ _).alloc (Nat.le_refl _) _⟩

theorem wrong_n3 (a b c : Int) (up : Bool) (h1 : decide (a < 0) = false) (h2 : decide (b < 0) = false) (h3 : decide (c < 0) = true) (w : World) :
    Calls Try.prog 23 #[.agg #[.int .i64 a, .int .i64 b, .int .i64 c], .bool up] w fun E w' => E = .returned (.int .i64 10) ∧ Below w.heap.size w w' := by
  go_enter Try.func23, Try.ntmps23
  go_wp2
  go_ret
  exact ⟨rfl, (Below.refl _ _).alloc (Nat.le_refl _) _⟩

theorem wrong_z (a b c : Int) (up : Bool) (h1 : decide (a < 0) = false) (h2 : decide (b < 0) = false) (h3 : decide (c < 0) = false) (h4 : (c == 0) = true) (w : World) :
    Calls Try.prog 23 #[.agg #[.int .i64 a, .int .i64 b, .int .i64 c], .bool up] w fun E w' => E = .returned (.int .i64 12) ∧ Below w.heap.size w w' := by
  go_enter Try.func23, Try.ntmps23
  go_wp2
  go_ret
  exact ⟨rfl, (Below.refl _ _).alloc (Nat.le_refl _) _⟩

theorem wrong_over (a b c : Int) (up : Bool) (h1 : decide (a < 0) = false) (h2 : decide (b < 0) = false) (h3 : decide (c < 0) = false) (h4 : (c == 0) = false) (cV : Hid (∀ W, Calls Try.prog 32 #[.agg #[.int .i64 a, .int .i64 b, .int .i64 c], .bool up] W fun E w' => E = .returned (.bool true) ∧ Below W.heap.size W w')) (w : World) :
    Calls Try.prog 23 #[.agg #[.int .i64 a, .int .i64 b, .int .i64 c], .bool up] w fun E w' => E = .returned (.int .i64 11) ∧ Below w.heap.size w w' := by
  go_enter Try.func23, Try.ntmps23
  go_wp2_with fail
  refine (cV.out _).mono ?_
  rintro E w1 ⟨rfl, b1⟩
  go_wp2
  go_ret
  exact ⟨rfl, below_alloc b1⟩

theorem wrong_ok (a b c : Int) (up : Bool) (h1 : decide (a < 0) = false) (h2 : decide (b < 0) = false) (h3 : decide (c < 0) = false) (h4 : (c == 0) = false) (cV : Hid (∀ W, Calls Try.prog 32 #[.agg #[.int .i64 a, .int .i64 b, .int .i64 c], .bool up] W fun E w' => E = .returned (.bool false) ∧ Below W.heap.size W w')) (w : World) :
    Calls Try.prog 23 #[.agg #[.int .i64 a, .int .i64 b, .int .i64 c], .bool up] w fun E w' => E = .returned (.int .i64 0) ∧ Below w.heap.size w w' := by
  go_enter Try.func23, Try.ntmps23
  go_wp2_with fail
  refine (cV.out _).mono ?_
  rintro E w1 ⟨rfl, b1⟩
  go_wp2
  go_ret
  exact ⟨rfl, below_alloc b1⟩

theorem told_bad (a b c k : Int) (up : Bool) (hk : (k != 0) = true) (cW : Hid (∀ W, Calls Try.prog 23 #[.agg #[.int .i64 a, .int .i64 b, .int .i64 c], .bool up] W fun E w' => E = .returned (.int .i64 k) ∧ Below W.heap.size W w')) (w : World) :
    Calls Try.prog 13 #[.int .i64 0, .int .i64 k, .agg #[.int .i64 a, .int .i64 b, .int .i64 c], .bool up] w fun E w' => E = .returned (.bool true) ∧ Below w.heap.size w w' := by
  go_enter Try.func13, Try.ntmps13
  go_wp2_with fail
  refine (cW.out _).mono ?_
  rintro E w1 ⟨rfl, b1⟩
  go_wp2
  go_ret
  exact ⟨rfl, below_alloc b1⟩

theorem told_good (a b c n : Int) (up : Bool) (cW : Hid (∀ W, Calls Try.prog 23 #[.agg #[.int .i64 a, .int .i64 b, .int .i64 c], .bool up] W fun E w' => E = .returned (.int .i64 0) ∧ Below W.heap.size W w'))
    (cI : Hid (∀ W, Calls Try.prog 24 #[.int .i64 n, .agg #[.int .i64 a, .int .i64 b, .int .i64 c], .bool up] W fun E w' => E = .returned (.bool true) ∧ Below W.heap.size W w')) (w : World) :
    Calls Try.prog 13 #[.int .i64 n, .int .i64 0, .agg #[.int .i64 a, .int .i64 b, .int .i64 c], .bool up] w fun E w' => E = .returned (.bool true) ∧ Below w.heap.size w w' := by
  go_enter Try.func13, Try.ntmps13
  go_wp2_with fail
  refine (cW.out _).mono ?_
  rintro E w1 ⟨rfl, b1⟩
  have H1 := Lib.hid ((Arr3.start w a b c 27).next b1)
  obtain ⟨_, _, p0, p1, p2⟩ := H1.out
  go_wp2_with fail
  refine (cI.out _).mono ?_
  rintro E w2 ⟨rfl, b2⟩
  go_wp2
  go_ret
  exact ⟨rfl, H1.out.done b2⟩

/-- The law's told says yes of what num.Div answers, for every three ints and both ways of rounding. -/
theorem told_any (a b c : Int) (up : Bool) (ha : Is64 a) (hb : Is64 b) (hc : Is64 c) (w : World) :
    Calls Try.prog 13 #[.int .i64 (divR a b c up).1, .int .i64 (divR a b c up).2, .agg #[.int .i64 a, .int .i64 b, .int .i64 c], .bool up] w fun E w' => E = .returned (.bool true) ∧ Below w.heap.size w w' := by
  obtain ⟨ha0, ha1⟩ := ha
  obtain ⟨hb0, hb1⟩ := hb
  obtain ⟨hc0, hc1⟩ := hc
  by_cases hneg : a < 0 ∨ b < 0 ∨ c < 0
  · have e : divR a b c up = (0, 10) := if_pos hneg
    rw [e]
    refine told_bad a b c 10 up (by decide) (Lib.hid fun W => ?_) w
    by_cases h1 : a < 0
    · exact wrong_n1 a b c up (by simpa using h1) W
    by_cases h2 : b < 0
    · exact wrong_n2 a b c up (by simpa using h1) (by simpa using h2) W
    · exact wrong_n3 a b c up (by simpa using h1) (by simpa using h2) (by simp; omega) W
  obtain ⟨a, rfl⟩ := Int.eq_ofNat_of_zero_le (by omega : 0 ≤ a)
  obtain ⟨b, rfl⟩ := Int.eq_ofNat_of_zero_le (by omega : 0 ≤ b)
  obtain ⟨c, rfl⟩ := Int.eq_ofNat_of_zero_le (by omega : 0 ≤ c)
  by_cases hz : c = 0
  · subst hz
    have e : divR a b ((0 : Nat) : Int) up = (0, 12) := by
      unfold divR
      rw [if_neg (by omega), if_pos (by omega)]
    rw [e]
    exact told_bad a b ((0 : Nat) : Int) 12 up (by decide) (Lib.hid fun W => wrong_z a b ((0 : Nat) : Int) up (by simp) (by simp) (by simp) (by simp) W) w
  have c0 : 0 < c := by omega
  have ha' : a ≤ 9223372036854775807 := by omega
  have hb' : b ≤ 9223372036854775807 := by omega
  have hc' : c ≤ 9223372036854775807 := by omega
  have hc4 : ((c : Int) == 0) = false := by simp; omega
  rw [divR_of a b c up c0]
  have cT := Lib.hid (fun W => times_dig a b (by omega) (by omega) W)
  have cO := Lib.hid (fun W => of_any 0 c (by omega) (by omega) W)
  rw [Nat.zero_mul, Nat.zero_add] at cO
  have cM := Lib.hid (fun W => times_dig 9223372036854775807 c (by omega) (by omega) W)
  have s1 := Lib.hid (prod_small ha' hb' hc')
  have s3 := Lib.hid (prod_small (a := 9223372036854775807) (Nat.le_refl _) hc' hc')
  by_cases hf : divQ a b c up ≤ 9223372036854775807
  · rw [if_pos hf]
    have cR := Lib.hid (fun W => times_dig (divQ a b c up) c (by omega) (by omega) W)
    have s2 := Lib.hid (prod_small hf hc' hc')
    have q3 : divQ a b c up * c ≤ 9223372036854775807 * c := Nat.mul_le_mul_right _ hf
    cases up with
    | true =>
      obtain ⟨q1, q2⟩ := divQ_up (a := a) (b := b) c0
      exact told_good a b c _ true (Lib.hid fun W => wrong_ok a b c true (by simp) (by simp) (by simp) hc4 (Lib.hid fun W => over_up a b c _ _ false ha' hb' hc' (decide_eq_false (by omega)) cT cO cM W) W)
        (Lib.hid fun W => is_up a b c _ _ _ ha' hb' hc' hf s1 (decide_eq_false (by omega)) (decide_eq_true (by omega)) cT cO cR W) w
    | false =>
      obtain ⟨q1, q2⟩ := divQ_down_le (P := a * b) c0
      rw [← divQ_down a b c] at q1 q2
      exact told_good a b c _ false (Lib.hid fun W => wrong_ok a b c false (by simp) (by simp) (by simp) hc4 (Lib.hid fun W => over_down a b c _ _ false ha' hb' hc' s3 (decide_eq_true (by omega)) cT cO cM W) W)
        (Lib.hid fun W => is_down a b c _ _ _ ha' hb' hc' hf s2 (decide_eq_false (by omega)) (decide_eq_true (by omega)) cT cO cR W) w
  · rw [if_neg hf]
    have q3 : (9223372036854775807 + 1) * c ≤ divQ a b c up * c := Nat.mul_le_mul_right _ (by omega)
    rw [Nat.add_mul, Nat.one_mul] at q3
    cases up with
    | true =>
      obtain ⟨q1, q2⟩ := divQ_up (a := a) (b := b) c0
      exact told_bad a b c 11 true (by decide) (Lib.hid fun W => wrong_over a b c true (by simp) (by simp) (by simp) hc4 (Lib.hid fun W => over_up a b c _ _ true ha' hb' hc' (decide_eq_true (by omega)) cT cO cM W) W) w
    | false =>
      obtain ⟨q1, q2⟩ := divQ_down_le (P := a * b) c0
      rw [← divQ_down a b c] at q1 q2
      exact told_bad a b c 11 false (by decide) (Lib.hid fun W => wrong_over a b c false (by simp) (by simp) (by simp) hc4 (Lib.hid fun W => over_down a b c _ _ true ha' hb' hc' s3 (decide_eq_false (by omega)) cT cO cM W) W) w
end Go.Proofs.Ythindhclcdbnfaa
