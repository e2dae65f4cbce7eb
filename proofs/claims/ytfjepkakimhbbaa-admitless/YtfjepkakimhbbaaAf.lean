/-
  admit: Copies; rows of params that a function makes for itself; slices.Clone at params; Change.
-/
import Derived.Test.YtfjepkakimhbbaaAe
import Derived.Laws.AppendOwnNone
import Derived.OwnWalk
namespace Go.Proofs.Ytfjepkakimhbbaa
open Go.RowKit Go.Sort Go.Shelf Go.Maps
set_option linter.unusedVariables false
set_option linter.unusedSimpArgs false

/-- Copies's closure. -/
theorem copies1_any (s u b : Int) (sb ub bb : Nat) (x : Nat) (hx : x ≤ 1000) (s0 : 0 ≤ s) (s1 : s ≤ 16777216) (u0 : 0 ≤ u) (u1 : u ≤ 1048576) (W : World) (hs : N1 W sb 3 s) (hu : N1 W ub 3 u) (hb : N1 W bb 3 b) :
    Calls Try.prog 31 #[.int .i64 (x : Int), .pointer (some ⟨sb, 0, none⟩), .pointer (some ⟨ub, 0, none⟩), .pointer (some ⟨bb, 0, none⟩)] W fun e w' => e = .returned (.bool (decide (s + (x : Int) * u ≤ b))) ∧ Grew W w' := by
  have c1 := hs.cell
  have c2 := hu.cell
  have c3 := hb.cell
  have m0 : 0 ≤ (x : Int) * u := Int.mul_nonneg (by omega) u0
  have m1 : (x : Int) * u ≤ 1000 * 1048576 := Int.mul_le_mul (by omega) u1 u0 (by omega)
  have hw1 : wrap64 ((x : Int) * u) = (x : Int) * u := wrapA (by omega) (by omega)
  have hw2 : wrap64 (s + (x : Int) * u) = s + (x : Int) * u := wrapA (by omega) (by omega)
  have E1 := Lib.hid hw1
  have E2 := Lib.hid hw2
  clear hw1 hw2
  go_enter Try.func31, Try.ntmps31
  go_wp2
  go_ret
  exact ⟨rfl, Grew.refl _⟩

/-- How many more servers that each ask for u pass, up to a bound b. -/
def copU (n : Nat) (s u b : Int) : Nat := (List.range n).countP (fun i : Nat => decide (s + ((i : Int) + 1) * u ≤ b))
theorem cop_mono {s u b : Int} (u0 : 0 ≤ u) {x y : Nat} (h : x ≤ y) (hy : decide (s + ((y : Int) + 1) * u ≤ b) = true) : decide (s + ((x : Int) + 1) * u ≤ b) = true := by
  have h1 := of_decide_eq_true hy
  have h2 : ((x : Int) + 1) * u ≤ ((y : Int) + 1) * u := Int.mul_le_mul_of_nonneg_right (by omega) u0
  exact decide_eq_true (by omega)
theorem copU_is (n : Nat) {s u b : Int} (u0 : 0 ≤ u) : copU n s u b ≤ n ∧ (∀ t : Nat, t < copU n s u b → s + ((t : Int) + 1) * u ≤ b) ∧ ∀ t : Nat, copU n s u b ≤ t → t < n → ¬ s + ((t : Int) + 1) * u ≤ b := by
  obtain ⟨h1, h2, h3⟩ := count_is (fun i : Nat => decide (s + ((i : Int) + 1) * u ≤ b)) n (fun x y hxy _ hy => cop_mono u0 hxy hy)
  exact ⟨h1, fun t ht => of_decide_eq_true (h2 t ht), fun t ht hn => of_decide_eq_false (h3 t ht hn)⟩
theorem copU_any (n : Nat) (hn : n ≤ 64) (s u b : Int) (s0 : 0 ≤ s) (s1 : s ≤ 16777216) (u0 : 0 ≤ u) (u1 : u ≤ 1048576) (W : World) (sb ub bb : Nat) (hs : N1 W sb 3 s) (hu : N1 W ub 3 u) (hb : N1 W bb 3 b) :
    Calls Try.prog 28 #[.int .i64 (n : Int), .func (.func 31) #[] #[.pointer (some ⟨sb, 0, none⟩), .pointer (some ⟨ub, 0, none⟩), .pointer (some ⟨bb, 0, none⟩)]] W fun e w' => e = .returned (.int .i64 ((copU n s u b : Nat) : Int)) ∧ Grew W w' :=
  greatest_any 31 _ n (fun i : Nat => decide (s + ((i : Int) + 1) * u ≤ b)) W (enters_of Try.func31 (by kernel_rfl) rfl) (by omega)
    (fun W' g i hi => by
      have := copies1_any s u b sb ub bb (i + 1) (by omega) s0 s1 u0 u1 W' (hs.kept (g.block hs.lt)) (hu.kept (g.block hu.lt)) (hb.kept (g.block hb.lt))
      rw [show ((i + 1 : Nat) : Int) = (i : Int) + 1 by omega] at this
      exact this)
    (fun x y hxy _ hy => cop_mono u0 hxy hy)
/-- What Copies answers. -/
def copN (h : Bool) (c k : Int) (L : List Pa) (p : Pa) : Int := ((copU 64 (sumU h L) (upA h p) (boundN h c k (max (maxU h L) (upA h p))) : Nat) : Int)
def CopR (h : Bool) (c k : Int) (L : List Pa) (p : Pa) : Int × Int := if testE h c k L = 0 then (if okB p = true then (copN h c k L p, 0) else (0, 1)) else (0, testE h c k L)

set_option maxHeartbeats 2000000 in
theorem copies_any (h : Bool) (c k : Int) (p : Pa) (hf : Fit p) (a : Option Addr) (cap : Nat) (L : List Pa) (hl : L.length ≤ 1000) (w : World) (hp : PAt w a L) :
    Calls Try.prog 19 #[ruV h c k, paV p, .slice a L.length cap] w fun e w' => e = .returned (.tuple #[.int .i64 (CopR h c k L p).1, .int .i64 (CopR h c k L p).2]) ∧ Below w.heap.size w w' := by
  obtain ⟨x1, x2, x3⟩ := p
  show Calls Try.prog 19 #[.agg #[.bool h, .int .i64 c, .int .i64 k], .agg #[.int .i64 x1, .int .i64 x2, .int .i64 x3], .slice a L.length cap] w _
  have hmf : ∀ (fn : Fn) (first cap : Array Value) (w : World), (Instr.makeFunc fn first cap).run Try.prog w = .ok (.func fn first cap) w := fun _ _ _ _ => rfl
  obtain ⟨W0, hW0⟩ : ∃ W0, (w.alloc (.cells #[.bool h, .int .i64 c, .int .i64 k] 23)).alloc (.cells #[.int .i64 x1, .int .i64 x2, .int .i64 x3] 40) = W0 := ⟨_, rfl⟩
  have b0 : Below w.heap.size w W0 := by rw [← hW0]; exact ((Below.refl _ _).alloc (Nat.le_refl _) _).alloc (by simp) _
  have r0 : Box3 W0 w.heap.size 23 (.bool h) (.int .i64 c) (.int .i64 k) := by rw [← hW0]; exact (Box3.start _ _ _ _ _).next' ((Below.refl _ _).alloc (Nat.le_refl _) _)
  have q0 : Box3 W0 (w.heap.size + 1) 40 (.int .i64 x1) (.int .i64 x2) (.int .i64 x3) := by
    rw [← hW0]
    have := Box3.start (w.alloc (.cells #[.bool h, .int .i64 c, .int .i64 k] 23)) 40 (.int .i64 x1) (.int .i64 x2) (.int .i64 x3)
    simpa using this
  have C1 := taken_any h c k a cap L hl W0 (hp.next b0)
  have HW := Lib.hid hW0
  have H0 := Lib.hid (And.intro b0 (And.intro r0 q0))
  have CA : Hid (∀ W, Calls Try.prog 30 #[.agg #[.bool h, .int .i64 c, .int .i64 k], .agg #[.int .i64 x1, .int .i64 x2, .int .i64 x3]] W fun e w' => e = .returned (.tuple #[.int .i64 (askR h (x1, x2, x3)).1, .int .i64 (askR h (x1, x2, x3)).2]) ∧ Below W.heap.size W w') := fun W => ask_any h c k (x1, x2, x3) hf W
  obtain ⟨R, hR⟩ : ∃ R, CopR h c k L (x1, x2, x3) = R := ⟨_, rfl⟩
  rw [hR]
  clear hp hW0 b0 r0 q0
  by_cases ht : testE h c k L = 0
  · obtain ⟨hk, hA, hs⟩ := testE_ok ht
    obtain ⟨⟨s0, _⟩, ⟨m0, m1⟩, _⟩ := uIn h hA
    have s1 : sumU h L ≤ 16777216 := Int.le_trans hs (boundN_le hk m0 m1)
    have e1 : takenR h c k L = (sumU h L, maxU h L, 0) := if_pos ht
    rw [e1] at C1
    have K1 := Lib.hid C1
    cases ho : okB (x1, x2, x3) with
    | true =>
      obtain ⟨e2, u0, u1⟩ := ask_ok (h := h) ho
      rw [e2] at CA
      obtain rfl : R = (copN h c k L (x1, x2, x3), 0) := by rw [← hR]; unfold CopR; rw [if_pos ht, if_pos ho]
      have CB : Hid (∀ W, Calls Try.prog 25 #[.agg #[.bool h, .int .i64 c, .int .i64 k], .int .i64 (max (maxU h L) (upA h (x1, x2, x3)))] W fun e w' => e = .returned (.int .i64 (boundN h c k (max (maxU h L) (upA h (x1, x2, x3))))) ∧ Below W.heap.size W w') := fun W => abound_any h c k _ hk (by omega) (by omega) W
      have CG : Hid (∀ W (sb ub bb : Nat), N1 W sb 3 (sumU h L) → N1 W ub 3 (upA h (x1, x2, x3)) → N1 W bb 3 (boundN h c k (max (maxU h L) (upA h (x1, x2, x3)))) → Calls Try.prog 28 #[.int .i64 64, .func (.func 31) #[] #[.pointer (some ⟨sb, 0, none⟩), .pointer (some ⟨ub, 0, none⟩), .pointer (some ⟨bb, 0, none⟩)]] W fun e w' => e = .returned (.int .i64 (copN h c k L (x1, x2, x3))) ∧ Grew W w') := fun W sb ub bb h1 h2 h3 =>
        copU_any 64 (Nat.le_refl _) (sumU h L) (upA h (x1, x2, x3)) _ s0 s1 (by omega) u1 W sb ub bb h1 h2 h3
      clear C1 hR ht hA hs s0 s1 m0 m1 e1 e2 u0 u1 ho
      generalize copN h c k L (x1, x2, x3) = v at *
      generalize boundN h c k (max (maxU h L) (upA h (x1, x2, x3))) = B at *
      generalize sumU h L = s at *
      generalize maxU h L = m at *
      generalize upA h (x1, x2, x3) = u at *
      generalize L.length = n at *
      go_enter Try.func19, Try.ntmps19
      go_wp2_with fail
      rw [HW.out]
      refine K1.out.mono ?_
      rintro e w1 ⟨rfl, b1⟩
      have R1 := Lib.hid (H0.out.2.1.next' b1)
      have Q1 := Lib.hid (H0.out.2.2.next' b1)
      have Z1 : Hid (w.heap.size + 2 ≤ w1.heap.size) := by show _ ≤ _; have := Q1.out.lt; omega
      obtain ⟨W2, hW2⟩ : ∃ W2, w1.alloc (.cells #[.int .i64 s] 3) = W2 := ⟨_, rfl⟩
      have b2 : Below w1.heap.size w1 W2 := by rw [← hW2]; exact (Below.refl _ _).alloc (Nat.le_refl _) _
      have n1 : N1 W2 w1.heap.size 3 s := by rw [← hW2]; exact N1.start _ _ _
      go_upto_region 4 with (fail)
      try rw [hW2]
      have p0 := (R1.out.next' b2).c0
      have p1 := (R1.out.next' b2).c1
      have p2 := (R1.out.next' b2).c2
      have p3 := (Q1.out.next' b2).c0
      have p4 := (Q1.out.next' b2).c1
      have p5 := (Q1.out.next' b2).c2
      have N1' := Lib.hid n1
      have R2 := Lib.hid (R1.out.next' b2)
      have B2 : Hid (Below w.heap.size w W2) := by
        have q := H0.out.1.trans (b1.mono H0.out.1.size)
        exact q.trans (b2.mono q.size)
      clear hW2 n1 b1 b2
      go_wp2_with fail
      refine (CA.out _).mono ?_
      rintro e w3 ⟨rfl, b3⟩
      have R3 := Lib.hid (R2.out.next' b3)
      have S3 := Lib.hid (N1'.out.next b3)
      obtain ⟨W4, hW4⟩ : ∃ W4, w3.alloc (.cells #[.int .i64 u] 3) = W4 := ⟨_, rfl⟩
      have b4 : Below w3.heap.size w3 W4 := by rw [← hW4]; exact (Below.refl _ _).alloc (Nat.le_refl _) _
      have n4 : N1 W4 w3.heap.size 3 u := by rw [← hW4]; exact N1.start _ _ _
      clear p0 p1 p2 p3 p4 p5
      go_upto_region 7 with (fail)
      try rw [hW4]
      have p0 := (R3.out.next' b4).c0
      have p1 := (R3.out.next' b4).c1
      have p2 := (R3.out.next' b4).c2
      have p3 := n4.cell
      have N4 := Lib.hid n4
      have S4 := Lib.hid (S3.out.next b4)
      have B4 : Hid (Below w.heap.size w W4) := by
        have q := B2.out.trans (b3.mono B2.out.size)
        exact q.trans (b4.mono q.size)
      clear hW4 n4 b3 b4
      go_wp2_with fail
      refine (CB.out _).mono ?_
      rintro e w5 ⟨rfl, b5⟩
      have S5 := Lib.hid (S4.out.next b5)
      have U5 := Lib.hid (N4.out.next b5)
      obtain ⟨W6, hW6⟩ : ∃ W6, w5.alloc (.cells #[.int .i64 B] 3) = W6 := ⟨_, rfl⟩
      have b6 : Below w5.heap.size w5 W6 := by rw [← hW6]; exact (Below.refl _ _).alloc (Nat.le_refl _) _
      have n6 : N1 W6 w5.heap.size 3 B := by rw [← hW6]; exact N1.start _ _ _
      go_wp2_with fail
      try rw [hW6]
      refine (CG.out W6 _ _ _ (S5.out.next b6) (U5.out.next b6) n6).mono ?_
      rintro e w7 ⟨rfl, g7⟩
      clear hW6 n6 p0 p1 p2 p3
      go_wp2
      go_ret2
      have q := B4.out.trans (b5.mono B4.out.size)
      have q2 := q.trans (b6.mono q.size)
      exact ⟨rfl, q2.trans (g7.below.mono q2.size)⟩
    | false =>
      rw [ask_bad ho] at CA
      obtain rfl : R = (0, 1) := by rw [← hR]; unfold CopR; rw [if_pos ht, if_neg (by rw [ho]; simp)]
      clear C1 hR ht hA hs s0 s1 m0 m1 e1 ho
      generalize sumU h L = s at *
      generalize maxU h L = m at *
      generalize L.length = n at *
      go_enter Try.func19, Try.ntmps19
      go_wp2_with fail
      rw [HW.out]
      refine K1.out.mono ?_
      rintro e w1 ⟨rfl, b1⟩
      have R1 := Lib.hid (H0.out.2.1.next' b1)
      have Q1 := Lib.hid (H0.out.2.2.next' b1)
      obtain ⟨W2, hW2⟩ : ∃ W2, w1.alloc (.cells #[.int .i64 s] 3) = W2 := ⟨_, rfl⟩
      have b2 : Below w1.heap.size w1 W2 := by rw [← hW2]; exact (Below.refl _ _).alloc (Nat.le_refl _) _
      go_upto_region 4 with (fail)
      try rw [hW2]
      have p0 := (R1.out.next' b2).c0
      have p1 := (R1.out.next' b2).c1
      have p2 := (R1.out.next' b2).c2
      have p3 := (Q1.out.next' b2).c0
      have p4 := (Q1.out.next' b2).c1
      have p5 := (Q1.out.next' b2).c2
      have B2 : Hid (Below w.heap.size w W2) := by
        have q := H0.out.1.trans (b1.mono H0.out.1.size)
        exact q.trans (b2.mono q.size)
      clear hW2 b1 b2
      go_wp2_with fail
      refine (CA.out _).mono ?_
      rintro e w3 ⟨rfl, b3⟩
      go_wp2
      go_ret2
      have q := B2.out.trans (b3.mono B2.out.size)
      exact ⟨rfl, q.alloc q.size _⟩
  · have e1 : takenR h c k L = (0, 0, testE h c k L) := if_neg ht
    obtain rfl : R = (0, testE h c k L) := by rw [← hR]; exact if_neg ht
    rw [e1] at C1
    have K1 := Lib.hid C1
    have hne : (testE h c k L != 0) = true := by simpa using ht
    have hne2 : (testE h c k L == 0) = false := by simpa using ht
    clear C1 hR e1
    generalize testE h c k L = t at *
    generalize L.length = n at *
    go_enter Try.func19, Try.ntmps19
    go_wp2_with fail
    rw [HW.out]
    refine K1.out.mono ?_
    rintro e w1 ⟨rfl, b1⟩
    go_wp2
    go_ret2
    have q := H0.out.1.trans (b1.mono H0.out.1.size)
    exact ⟨rfl, q.alloc q.size _⟩
end Go.Proofs.Ytfjepkakimhbbaa
