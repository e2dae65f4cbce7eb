/-
  The walk of GrubCharges: its ways.
-/
import Derived.Test.YthncchngphlcfaaGc
namespace Go.Proofs.Ythncchngphlcfaa
open Go.RowKit
set_option linter.unusedVariables false
set_option linter.unusedSimpArgs false

/-- A meter and an array of two, in two blocks that a function made at its beginning. -/
def One2 (w W : World) (r x l : Int) : Prop := w.heap.size + 1 < W.heap.size ∧ Below w.heap.size w W ∧ W.cell? ⟨w.heap.size, 0, none⟩ = some (.int .i64 r) ∧ W.cell? ⟨w.heap.size + 1, 0, none⟩ = some (.int .i64 x) ∧ W.cell? ⟨w.heap.size + 1, 1, none⟩ = some (.int .i64 l)
theorem One2.next {w W W' : World} {r x l : Int} (h : One2 w W r x l) (hb : Below W.heap.size W W') : One2 w W' r x l := by
  obtain ⟨hz, hB, p0, p1, p2⟩ := h
  have hm : ∀ o, W'.cell? ⟨w.heap.size + 1, o, none⟩ = W.cell? ⟨w.heap.size + 1, o, none⟩ := fun o => hb.cell (p := ⟨w.heap.size + 1, o, none⟩) hz
  exact ⟨Nat.lt_of_lt_of_le hz hb.size, hB.trans (hb.mono hB.size), (hb.cell (p := ⟨w.heap.size, 0, none⟩) (by show w.heap.size < _; omega)).trans p0, (hm 0).trans p1, (hm 1).trans p2⟩
theorem One2.alloc {w W : World} {r x l : Int} (h : One2 w W r x l) (o : Obj) : One2 w (W.alloc o) r x l := h.next ((Below.refl _ _).alloc (Nat.le_refl _) _)
theorem One2.start (w : World) (r x l : Int) (T T' : TypeId) : One2 w ((w.alloc (.cells #[.int .i64 r] T)).alloc (.cells #[.int .i64 x, .int .i64 l] T')) r x l :=
  ⟨by simp, ((Below.refl _ _).alloc (Nat.le_refl _) _).alloc (by simp) _, by simp [go_sem], by simp [go_sem], by simp [go_sem]⟩

def ChC (r t x n y e : Int) : Prop := Hid (∀ W, Calls Try.prog 15 #[.agg #[.int .i64 r], .int .i64 t, .int .i64 x] W fun E w' => E = .returned (.tuple #[.int .i64 n, .agg #[.int .i64 y], .int .i64 e]) ∧ Below W.heap.size W w')
def UnC (r l x t e : Int) : Prop := Hid (∀ W, Calls Try.prog 18 #[.agg #[.int .i64 r], .int .i64 l, .int .i64 x] W fun E w' => E = .returned (.tuple #[.int .i64 t, .int .i64 e]) ∧ Below W.heap.size W w')
def WrC (r t x e : Int) : Prop := Hid (∀ W, Calls Try.prog 16 #[.int .i64 r, .int .i64 t, .int .i64 x] W fun E w' => E = .returned (.int .i64 e) ∧ W = w')
def RcC (r t x n y : Int) : Prop := Hid (∀ W, Calls Try.prog 17 #[.int .i64 r, .int .i64 t, .int .i64 x] W fun E w' => E = .returned (.tuple #[.int .i64 n, .int .i64 y]) ∧ W = w')

set_option maxRecDepth 20000 in
theorem charges_u0_bad (r t x l : Int) (h0 : decide (r < 0) = true) (y : Int) (y0 : (y != 0) = true) (CH : ChC r t x 0 0 y) (CW : WrC r t x y) (CU : UnC r l x 0 1) (cA : AwG) (w : World) :
    Calls Try.prog 4 #[.agg #[.int .i64 r], .int .i64 t, .agg #[.int .i64 x, .int .i64 l]] w fun E w' => E = .returned (.bool true) ∧ Below w.heap.size w w' := by
  have S0 := Lib.hid (One2.start w r x l 34 35)
  go_enter Try.func4, Try.ntmps4
  go_wp2_with fail
  refine (Hid.out CH _).mono ?_
  rintro e w1 ⟨rfl, b1⟩
  have S1 := Lib.hid ((S0.out.next b1).alloc (.cells #[.int .i64 0] 34))
  obtain ⟨_, _, p0, _, _⟩ := (S0.out.next b1)
  have lt1 : w.heap.size < w1.heap.size := by have := (S0.out.next b1).1; omega
  go_wp2_with fail
  refine (Hid.out CW _).mono ?_
  rintro e w2 ⟨rfl, rfl⟩
  go_wp2_with fail
  refine (Hid.out CU _).mono ?_
  rintro e w2 ⟨rfl, b2⟩
  clear p0
  have S2 := Lib.hid (S1.out.next b2)
  obtain ⟨_, _, p0, _, _⟩ := S2.out
  go_wp2_with fail
  refine (Hid.out cA _).mono ?_
  rintro e w3 ⟨rfl, b3⟩
  go_wp2
  go_ret
  exact ⟨rfl, (S2.out.next b3).2.1⟩

set_option maxRecDepth 20000 in
theorem charges_u1_bad (r t x l : Int) (h0 : decide (r < 0) = false) (h1 : decide (1048575 < r) = true) (y : Int) (y0 : (y != 0) = true) (CH : ChC r t x 0 0 y) (CW : WrC r t x y) (CU : UnC r l x 0 1) (cA : AwG) (w : World) :
    Calls Try.prog 4 #[.agg #[.int .i64 r], .int .i64 t, .agg #[.int .i64 x, .int .i64 l]] w fun E w' => E = .returned (.bool true) ∧ Below w.heap.size w w' := by
  have S0 := Lib.hid (One2.start w r x l 34 35)
  go_enter Try.func4, Try.ntmps4
  go_wp2_with fail
  refine (Hid.out CH _).mono ?_
  rintro e w1 ⟨rfl, b1⟩
  have S1 := Lib.hid ((S0.out.next b1).alloc (.cells #[.int .i64 0] 34))
  obtain ⟨_, _, p0, _, _⟩ := (S0.out.next b1)
  have lt1 : w.heap.size < w1.heap.size := by have := (S0.out.next b1).1; omega
  go_wp2_with fail
  refine (Hid.out CW _).mono ?_
  rintro e w2 ⟨rfl, rfl⟩
  go_wp2_with fail
  refine (Hid.out CU _).mono ?_
  rintro e w2 ⟨rfl, b2⟩
  clear p0
  have S2 := Lib.hid (S1.out.next b2)
  obtain ⟨_, _, p0, _, _⟩ := S2.out
  go_wp2_with fail
  refine (Hid.out cA _).mono ?_
  rintro e w3 ⟨rfl, b3⟩
  go_wp2
  go_ret
  exact ⟨rfl, (S2.out.next b3).2.1⟩

set_option maxRecDepth 20000 in
theorem charges_u2_bad (r t x l : Int) (h0 : decide (r < 0) = false) (h1 : decide (1048575 < r) = false) (h2 : decide (x < 0) = true) (y : Int) (y0 : (y != 0) = true) (CH : ChC r t x 0 0 y) (CW : WrC r t x y) (CU : UnC r l x 0 10) (cA : AwG) (w : World) :
    Calls Try.prog 4 #[.agg #[.int .i64 r], .int .i64 t, .agg #[.int .i64 x, .int .i64 l]] w fun E w' => E = .returned (.bool true) ∧ Below w.heap.size w w' := by
  have S0 := Lib.hid (One2.start w r x l 34 35)
  go_enter Try.func4, Try.ntmps4
  go_wp2_with fail
  refine (Hid.out CH _).mono ?_
  rintro e w1 ⟨rfl, b1⟩
  have S1 := Lib.hid ((S0.out.next b1).alloc (.cells #[.int .i64 0] 34))
  obtain ⟨_, _, p0, _, _⟩ := (S0.out.next b1)
  have lt1 : w.heap.size < w1.heap.size := by have := (S0.out.next b1).1; omega
  go_wp2_with fail
  refine (Hid.out CW _).mono ?_
  rintro e w2 ⟨rfl, rfl⟩
  go_wp2_with fail
  refine (Hid.out CU _).mono ?_
  rintro e w2 ⟨rfl, b2⟩
  clear p0
  have S2 := Lib.hid (S1.out.next b2)
  obtain ⟨_, _, p0, _, _⟩ := S2.out
  go_wp2_with fail
  refine (Hid.out cA _).mono ?_
  rintro e w3 ⟨rfl, b3⟩
  go_wp2
  go_ret
  exact ⟨rfl, (S2.out.next b3).2.1⟩

set_option maxRecDepth 20000 in
theorem charges_u3_bad (r t x l : Int) (h0 : decide (r < 0) = false) (h1 : decide (1048575 < r) = false) (h2 : decide (x < 0) = false) (h3 : decide (1048576 < x) = true) (y : Int) (y0 : (y != 0) = true) (CH : ChC r t x 0 0 y) (CW : WrC r t x y) (CU : UnC r l x 0 10) (cA : AwG) (w : World) :
    Calls Try.prog 4 #[.agg #[.int .i64 r], .int .i64 t, .agg #[.int .i64 x, .int .i64 l]] w fun E w' => E = .returned (.bool true) ∧ Below w.heap.size w w' := by
  have S0 := Lib.hid (One2.start w r x l 34 35)
  go_enter Try.func4, Try.ntmps4
  go_wp2_with fail
  refine (Hid.out CH _).mono ?_
  rintro e w1 ⟨rfl, b1⟩
  have S1 := Lib.hid ((S0.out.next b1).alloc (.cells #[.int .i64 0] 34))
  obtain ⟨_, _, p0, _, _⟩ := (S0.out.next b1)
  have lt1 : w.heap.size < w1.heap.size := by have := (S0.out.next b1).1; omega
  go_wp2_with fail
  refine (Hid.out CW _).mono ?_
  rintro e w2 ⟨rfl, rfl⟩
  go_wp2_with fail
  refine (Hid.out CU _).mono ?_
  rintro e w2 ⟨rfl, b2⟩
  clear p0
  have S2 := Lib.hid (S1.out.next b2)
  obtain ⟨_, _, p0, _, _⟩ := S2.out
  go_wp2_with fail
  refine (Hid.out cA _).mono ?_
  rintro e w3 ⟨rfl, b3⟩
  go_wp2
  go_ret
  exact ⟨rfl, (S2.out.next b3).2.1⟩

set_option maxRecDepth 20000 in
theorem charges_u4_bad (r t x l : Int) (h0 : decide (r < 0) = false) (h1 : decide (1048575 < r) = false) (h2 : decide (x < 0) = false) (h3 : decide (1048576 < x) = false) (h4 : decide (l < 0) = true) (y : Int) (y0 : (y != 0) = true) (CH : ChC r t x 0 0 y) (CW : WrC r t x y) (CU : UnC r l x 0 10) (cA : AwG) (w : World) :
    Calls Try.prog 4 #[.agg #[.int .i64 r], .int .i64 t, .agg #[.int .i64 x, .int .i64 l]] w fun E w' => E = .returned (.bool true) ∧ Below w.heap.size w w' := by
  have S0 := Lib.hid (One2.start w r x l 34 35)
  go_enter Try.func4, Try.ntmps4
  go_wp2_with fail
  refine (Hid.out CH _).mono ?_
  rintro e w1 ⟨rfl, b1⟩
  have S1 := Lib.hid ((S0.out.next b1).alloc (.cells #[.int .i64 0] 34))
  obtain ⟨_, _, p0, _, _⟩ := (S0.out.next b1)
  have lt1 : w.heap.size < w1.heap.size := by have := (S0.out.next b1).1; omega
  go_wp2_with fail
  refine (Hid.out CW _).mono ?_
  rintro e w2 ⟨rfl, rfl⟩
  go_wp2_with fail
  refine (Hid.out CU _).mono ?_
  rintro e w2 ⟨rfl, b2⟩
  clear p0
  have S2 := Lib.hid (S1.out.next b2)
  obtain ⟨_, _, p0, _, _⟩ := S2.out
  go_wp2_with fail
  refine (Hid.out cA _).mono ?_
  rintro e w3 ⟨rfl, b3⟩
  go_wp2
  go_ret
  exact ⟨rfl, (S2.out.next b3).2.1⟩

set_option maxRecDepth 20000 in
theorem charges_u4_ok (r t x l : Int) (h0 : decide (r < 0) = false) (h1 : decide (1048575 < r) = false) (h2 : decide (x < 0) = false) (h3 : decide (1048576 < x) = false) (h4 : decide (l < 0) = true) (n y : Int) (CH : ChC r t x n y 0) (CW : WrC r t x 0) (CR : RcC r t x n y) (CU : UnC r l x 0 10) (cA : AwG) (w : World) :
    Calls Try.prog 4 #[.agg #[.int .i64 r], .int .i64 t, .agg #[.int .i64 x, .int .i64 l]] w fun E w' => E = .returned (.bool true) ∧ Below w.heap.size w w' := by
  have S0 := Lib.hid (One2.start w r x l 34 35)
  go_enter Try.func4, Try.ntmps4
  go_wp2_with fail
  refine (Hid.out CH _).mono ?_
  rintro e w1 ⟨rfl, b1⟩
  have S1 := Lib.hid ((S0.out.next b1).alloc (.cells #[.int .i64 y] 34))
  obtain ⟨_, _, p0, _, _⟩ := (S0.out.next b1)
  have lt1 : w.heap.size < w1.heap.size := by have := (S0.out.next b1).1; omega
  go_wp2_with fail
  refine (Hid.out CW _).mono ?_
  rintro e w2 ⟨rfl, rfl⟩
  go_wp2_with fail
  refine (Hid.out CR _).mono ?_
  rintro e w2 ⟨rfl, rfl⟩
  go_wp2_with fail
  refine (Hid.out CU _).mono ?_
  rintro e w2 ⟨rfl, b2⟩
  clear p0
  have S2 := Lib.hid (S1.out.next b2)
  obtain ⟨_, _, p0, _, _⟩ := S2.out
  go_wp2_with fail
  refine (Hid.out cA _).mono ?_
  rintro e w3 ⟨rfl, b3⟩
  go_wp2
  go_ret
  exact ⟨rfl, (S2.out.next b3).2.1⟩

set_option maxRecDepth 20000 in
theorem charges_u5_bad (r t x l : Int) (h0 : decide (r < 0) = false) (h1 : decide (1048575 < r) = false) (h2 : decide (x < 0) = false) (h3 : decide (1048576 < x) = false) (h4 : decide (l < 0) = false) (h5 : decide (1073741824 < l) = true) (y : Int) (y0 : (y != 0) = true) (CH : ChC r t x 0 0 y) (CW : WrC r t x y) (CU : UnC r l x 0 10) (cA : AwG) (w : World) :
    Calls Try.prog 4 #[.agg #[.int .i64 r], .int .i64 t, .agg #[.int .i64 x, .int .i64 l]] w fun E w' => E = .returned (.bool true) ∧ Below w.heap.size w w' := by
  have S0 := Lib.hid (One2.start w r x l 34 35)
  go_enter Try.func4, Try.ntmps4
  go_wp2_with fail
  refine (Hid.out CH _).mono ?_
  rintro e w1 ⟨rfl, b1⟩
  have S1 := Lib.hid ((S0.out.next b1).alloc (.cells #[.int .i64 0] 34))
  obtain ⟨_, _, p0, _, _⟩ := (S0.out.next b1)
  have lt1 : w.heap.size < w1.heap.size := by have := (S0.out.next b1).1; omega
  go_wp2_with fail
  refine (Hid.out CW _).mono ?_
  rintro e w2 ⟨rfl, rfl⟩
  go_wp2_with fail
  refine (Hid.out CU _).mono ?_
  rintro e w2 ⟨rfl, b2⟩
  clear p0
  have S2 := Lib.hid (S1.out.next b2)
  obtain ⟨_, _, p0, _, _⟩ := S2.out
  go_wp2_with fail
  refine (Hid.out cA _).mono ?_
  rintro e w3 ⟨rfl, b3⟩
  go_wp2
  go_ret
  exact ⟨rfl, (S2.out.next b3).2.1⟩

set_option maxRecDepth 20000 in
theorem charges_u5_ok (r t x l : Int) (h0 : decide (r < 0) = false) (h1 : decide (1048575 < r) = false) (h2 : decide (x < 0) = false) (h3 : decide (1048576 < x) = false) (h4 : decide (l < 0) = false) (h5 : decide (1073741824 < l) = true) (n y : Int) (CH : ChC r t x n y 0) (CW : WrC r t x 0) (CR : RcC r t x n y) (CU : UnC r l x 0 10) (cA : AwG) (w : World) :
    Calls Try.prog 4 #[.agg #[.int .i64 r], .int .i64 t, .agg #[.int .i64 x, .int .i64 l]] w fun E w' => E = .returned (.bool true) ∧ Below w.heap.size w w' := by
  have S0 := Lib.hid (One2.start w r x l 34 35)
  go_enter Try.func4, Try.ntmps4
  go_wp2_with fail
  refine (Hid.out CH _).mono ?_
  rintro e w1 ⟨rfl, b1⟩
  have S1 := Lib.hid ((S0.out.next b1).alloc (.cells #[.int .i64 y] 34))
  obtain ⟨_, _, p0, _, _⟩ := (S0.out.next b1)
  have lt1 : w.heap.size < w1.heap.size := by have := (S0.out.next b1).1; omega
  go_wp2_with fail
  refine (Hid.out CW _).mono ?_
  rintro e w2 ⟨rfl, rfl⟩
  go_wp2_with fail
  refine (Hid.out CR _).mono ?_
  rintro e w2 ⟨rfl, rfl⟩
  go_wp2_with fail
  refine (Hid.out CU _).mono ?_
  rintro e w2 ⟨rfl, b2⟩
  clear p0
  have S2 := Lib.hid (S1.out.next b2)
  obtain ⟨_, _, p0, _, _⟩ := S2.out
  go_wp2_with fail
  refine (Hid.out cA _).mono ?_
  rintro e w3 ⟨rfl, b3⟩
  go_wp2
  go_ret
  exact ⟨rfl, (S2.out.next b3).2.1⟩

set_option maxRecDepth 20000 in
theorem charges_z_bad (r t x l : Int) (h0 : decide (r < 0) = false) (h1 : decide (1048575 < r) = false) (h2 : decide (x < 0) = false) (h3 : decide (1048576 < x) = false) (h4 : decide (l < 0) = false) (h5 : decide (1073741824 < l) = false) (l0 : (l == 0) = true) (y : Int) (y0 : (y != 0) = true) (CH : ChC r t x 0 0 y) (CW : WrC r t x y) (CU : UnC r l x 0 0) (cA : AwG) (w : World) :
    Calls Try.prog 4 #[.agg #[.int .i64 r], .int .i64 t, .agg #[.int .i64 x, .int .i64 l]] w fun E w' => E = .returned (.bool true) ∧ Below w.heap.size w w' := by
  have S0 := Lib.hid (One2.start w r x l 34 35)
  go_enter Try.func4, Try.ntmps4
  go_wp2_with fail
  refine (Hid.out CH _).mono ?_
  rintro e w1 ⟨rfl, b1⟩
  have S1 := Lib.hid ((S0.out.next b1).alloc (.cells #[.int .i64 0] 34))
  obtain ⟨_, _, p0, _, _⟩ := (S0.out.next b1)
  have lt1 : w.heap.size < w1.heap.size := by have := (S0.out.next b1).1; omega
  go_wp2_with fail
  refine (Hid.out CW _).mono ?_
  rintro e w2 ⟨rfl, rfl⟩
  go_wp2_with fail
  refine (Hid.out CU _).mono ?_
  rintro e w2 ⟨rfl, b2⟩
  clear p0
  have S2 := Lib.hid (S1.out.next b2)
  obtain ⟨_, _, p0, _, _⟩ := S2.out
  go_wp2_with fail
  refine (Hid.out cA _).mono ?_
  rintro e w3 ⟨rfl, b3⟩
  go_wp2
  go_ret
  exact ⟨rfl, (S2.out.next b3).2.1⟩

set_option maxRecDepth 20000 in
theorem charges_r_bad (r t x l : Int) (h0 : decide (r < 0) = false) (h1 : decide (1048575 < r) = false) (h2 : decide (x < 0) = false) (h3 : decide (1048576 < x) = false) (h4 : decide (l < 0) = false) (h5 : decide (1073741824 < l) = false) (l0 : (l == 0) = false) (x0 : (x == 0) = true) (y : Int) (y0 : (y != 0) = true) (CH : ChC r t x 0 0 y) (CW : WrC r t x y) (CU : UnC r l x 0 12) (cA : AwG) (w : World) :
    Calls Try.prog 4 #[.agg #[.int .i64 r], .int .i64 t, .agg #[.int .i64 x, .int .i64 l]] w fun E w' => E = .returned (.bool true) ∧ Below w.heap.size w w' := by
  have S0 := Lib.hid (One2.start w r x l 34 35)
  go_enter Try.func4, Try.ntmps4
  go_wp2_with fail
  refine (Hid.out CH _).mono ?_
  rintro e w1 ⟨rfl, b1⟩
  have S1 := Lib.hid ((S0.out.next b1).alloc (.cells #[.int .i64 0] 34))
  obtain ⟨_, _, p0, _, _⟩ := (S0.out.next b1)
  have lt1 : w.heap.size < w1.heap.size := by have := (S0.out.next b1).1; omega
  go_wp2_with fail
  refine (Hid.out CW _).mono ?_
  rintro e w2 ⟨rfl, rfl⟩
  go_wp2_with fail
  refine (Hid.out CU _).mono ?_
  rintro e w2 ⟨rfl, b2⟩
  clear p0
  have S2 := Lib.hid (S1.out.next b2)
  obtain ⟨_, _, p0, _, _⟩ := S2.out
  go_wp2_with fail
  refine (Hid.out cA _).mono ?_
  rintro e w3 ⟨rfl, b3⟩
  go_wp2
  go_ret
  exact ⟨rfl, (S2.out.next b3).2.1⟩

set_option maxRecDepth 20000 in
theorem charges_h_bad (r t x l : Int) (h0 : decide (r < 0) = false) (h1 : decide (1048575 < r) = false) (h2 : decide (x < 0) = false) (h3 : decide (1048576 < x) = false) (h4 : decide (l < 0) = false) (h5 : decide (1073741824 < l) = false) (l0 : (l == 0) = false) (x0 : (x == 0) = false) (a b : Int) (CT : RcC r 1099511627775 x a b) (g : decide (a < l) = true) (y : Int) (y0 : (y != 0) = true) (CH : ChC r t x 0 0 y) (CW : WrC r t x y) (CU : UnC r l x 0 21) (cA : AwG) (w : World) :
    Calls Try.prog 4 #[.agg #[.int .i64 r], .int .i64 t, .agg #[.int .i64 x, .int .i64 l]] w fun E w' => E = .returned (.bool true) ∧ Below w.heap.size w w' := by
  have S0 := Lib.hid (One2.start w r x l 34 35)
  go_enter Try.func4, Try.ntmps4
  go_wp2_with fail
  refine (Hid.out CH _).mono ?_
  rintro e w1 ⟨rfl, b1⟩
  have S1 := Lib.hid ((S0.out.next b1).alloc (.cells #[.int .i64 0] 34))
  obtain ⟨_, _, p0, _, _⟩ := (S0.out.next b1)
  have lt1 : w.heap.size < w1.heap.size := by have := (S0.out.next b1).1; omega
  go_wp2_with fail
  refine (Hid.out CW _).mono ?_
  rintro e w2 ⟨rfl, rfl⟩
  go_wp2_with fail
  refine (Hid.out CU _).mono ?_
  rintro e w2 ⟨rfl, b2⟩
  clear p0
  have S2 := Lib.hid (S1.out.next b2)
  obtain ⟨_, _, p0, _, _⟩ := S2.out
  go_wp2_with fail
  refine (Hid.out CT _).mono ?_
  rintro e w3 ⟨rfl, rfl⟩
  go_wp2_with fail
  refine (Hid.out cA _).mono ?_
  rintro e w3 ⟨rfl, b3⟩
  go_wp2
  go_ret
  exact ⟨rfl, (S2.out.next b3).2.1⟩

set_option maxRecDepth 20000 in
theorem charges_g_bad (r t x l : Int) (h0 : decide (r < 0) = false) (h1 : decide (1048575 < r) = false) (h2 : decide (x < 0) = false) (h3 : decide (1048576 < x) = false) (h4 : decide (l < 0) = false) (h5 : decide (1073741824 < l) = false) (l0 : (l == 0) = false) (x0 : (x == 0) = false) (a b : Int) (CT : RcC r 1099511627775 x a b) (g : decide (a < l) = false) (q c d c' d' : Int) (q0 : 1 ≤ q) (q1 : q ≤ 1099511627775) (C1 : RcC r q x c d) (C2 : RcC r (q - 1) x c' d') (g1 : decide (l ≤ c) = true) (g2 : decide (c' < l) = true) (y : Int) (y0 : (y != 0) = true) (CH : ChC r t x 0 0 y) (CW : WrC r t x y) (CU : UnC r l x q 0) (cA : AwG) (w : World) :
    Calls Try.prog 4 #[.agg #[.int .i64 r], .int .i64 t, .agg #[.int .i64 x, .int .i64 l]] w fun E w' => E = .returned (.bool true) ∧ Below w.heap.size w w' := by
  have S0 := Lib.hid (One2.start w r x l 34 35)
  go_enter Try.func4, Try.ntmps4
  go_wp2_with fail
  refine (Hid.out CH _).mono ?_
  rintro e w1 ⟨rfl, b1⟩
  have S1 := Lib.hid ((S0.out.next b1).alloc (.cells #[.int .i64 0] 34))
  obtain ⟨_, _, p0, _, _⟩ := (S0.out.next b1)
  have lt1 : w.heap.size < w1.heap.size := by have := (S0.out.next b1).1; omega
  go_wp2_with fail
  refine (Hid.out CW _).mono ?_
  rintro e w2 ⟨rfl, rfl⟩
  go_wp2_with fail
  refine (Hid.out CU _).mono ?_
  rintro e w2 ⟨rfl, b2⟩
  clear p0
  have S2 := Lib.hid (S1.out.next b2)
  obtain ⟨_, _, p0, _, _⟩ := S2.out
  go_wp2_with fail
  refine (Hid.out CT _).mono ?_
  rintro e w3 ⟨rfl, rfl⟩
  go_wp2_with fail
  refine (Hid.out C1 _).mono ?_
  rintro e w3 ⟨rfl, rfl⟩
  go_wp2_with fail
  refine (Hid.out C2 _).mono ?_
  rintro e w3 ⟨rfl, rfl⟩
  go_wp2_with fail
  refine (Hid.out cA _).mono ?_
  rintro e w3 ⟨rfl, b3⟩
  go_wp2
  go_ret
  exact ⟨rfl, (S2.out.next b3).2.1⟩

set_option maxRecDepth 20000 in
theorem charges_z_ok (r t x l : Int) (h0 : decide (r < 0) = false) (h1 : decide (1048575 < r) = false) (h2 : decide (x < 0) = false) (h3 : decide (1048576 < x) = false) (h4 : decide (l < 0) = false) (h5 : decide (1073741824 < l) = false) (l0 : (l == 0) = true) (n y : Int) (CH : ChC r t x n y 0) (CW : WrC r t x 0) (CR : RcC r t x n y) (CU : UnC r l x 0 0) (cA : AwG) (w : World) :
    Calls Try.prog 4 #[.agg #[.int .i64 r], .int .i64 t, .agg #[.int .i64 x, .int .i64 l]] w fun E w' => E = .returned (.bool true) ∧ Below w.heap.size w w' := by
  have S0 := Lib.hid (One2.start w r x l 34 35)
  go_enter Try.func4, Try.ntmps4
  go_wp2_with fail
  refine (Hid.out CH _).mono ?_
  rintro e w1 ⟨rfl, b1⟩
  have S1 := Lib.hid ((S0.out.next b1).alloc (.cells #[.int .i64 y] 34))
  obtain ⟨_, _, p0, _, _⟩ := (S0.out.next b1)
  have lt1 : w.heap.size < w1.heap.size := by have := (S0.out.next b1).1; omega
  go_wp2_with fail
  refine (Hid.out CW _).mono ?_
  rintro e w2 ⟨rfl, rfl⟩
  go_wp2_with fail
  refine (Hid.out CR _).mono ?_
  rintro e w2 ⟨rfl, rfl⟩
  go_wp2_with fail
  refine (Hid.out CU _).mono ?_
  rintro e w2 ⟨rfl, b2⟩
  clear p0
  have S2 := Lib.hid (S1.out.next b2)
  obtain ⟨_, _, p0, _, _⟩ := S2.out
  go_wp2_with fail
  refine (Hid.out cA _).mono ?_
  rintro e w3 ⟨rfl, b3⟩
  go_wp2
  go_ret
  exact ⟨rfl, (S2.out.next b3).2.1⟩

set_option maxRecDepth 20000 in
theorem charges_r_ok (r t x l : Int) (h0 : decide (r < 0) = false) (h1 : decide (1048575 < r) = false) (h2 : decide (x < 0) = false) (h3 : decide (1048576 < x) = false) (h4 : decide (l < 0) = false) (h5 : decide (1073741824 < l) = false) (l0 : (l == 0) = false) (x0 : (x == 0) = true) (n y : Int) (CH : ChC r t x n y 0) (CW : WrC r t x 0) (CR : RcC r t x n y) (CU : UnC r l x 0 12) (cA : AwG) (w : World) :
    Calls Try.prog 4 #[.agg #[.int .i64 r], .int .i64 t, .agg #[.int .i64 x, .int .i64 l]] w fun E w' => E = .returned (.bool true) ∧ Below w.heap.size w w' := by
  have S0 := Lib.hid (One2.start w r x l 34 35)
  go_enter Try.func4, Try.ntmps4
  go_wp2_with fail
  refine (Hid.out CH _).mono ?_
  rintro e w1 ⟨rfl, b1⟩
  have S1 := Lib.hid ((S0.out.next b1).alloc (.cells #[.int .i64 y] 34))
  obtain ⟨_, _, p0, _, _⟩ := (S0.out.next b1)
  have lt1 : w.heap.size < w1.heap.size := by have := (S0.out.next b1).1; omega
  go_wp2_with fail
  refine (Hid.out CW _).mono ?_
  rintro e w2 ⟨rfl, rfl⟩
  go_wp2_with fail
  refine (Hid.out CR _).mono ?_
  rintro e w2 ⟨rfl, rfl⟩
  go_wp2_with fail
  refine (Hid.out CU _).mono ?_
  rintro e w2 ⟨rfl, b2⟩
  clear p0
  have S2 := Lib.hid (S1.out.next b2)
  obtain ⟨_, _, p0, _, _⟩ := S2.out
  go_wp2_with fail
  refine (Hid.out cA _).mono ?_
  rintro e w3 ⟨rfl, b3⟩
  go_wp2
  go_ret
  exact ⟨rfl, (S2.out.next b3).2.1⟩

set_option maxRecDepth 20000 in
theorem charges_h_ok (r t x l : Int) (h0 : decide (r < 0) = false) (h1 : decide (1048575 < r) = false) (h2 : decide (x < 0) = false) (h3 : decide (1048576 < x) = false) (h4 : decide (l < 0) = false) (h5 : decide (1073741824 < l) = false) (l0 : (l == 0) = false) (x0 : (x == 0) = false) (a b : Int) (CT : RcC r 1099511627775 x a b) (g : decide (a < l) = true) (n y : Int) (CH : ChC r t x n y 0) (CW : WrC r t x 0) (CR : RcC r t x n y) (CU : UnC r l x 0 21) (cA : AwG) (w : World) :
    Calls Try.prog 4 #[.agg #[.int .i64 r], .int .i64 t, .agg #[.int .i64 x, .int .i64 l]] w fun E w' => E = .returned (.bool true) ∧ Below w.heap.size w w' := by
  have S0 := Lib.hid (One2.start w r x l 34 35)
  go_enter Try.func4, Try.ntmps4
  go_wp2_with fail
  refine (Hid.out CH _).mono ?_
  rintro e w1 ⟨rfl, b1⟩
  have S1 := Lib.hid ((S0.out.next b1).alloc (.cells #[.int .i64 y] 34))
  obtain ⟨_, _, p0, _, _⟩ := (S0.out.next b1)
  have lt1 : w.heap.size < w1.heap.size := by have := (S0.out.next b1).1; omega
  go_wp2_with fail
  refine (Hid.out CW _).mono ?_
  rintro e w2 ⟨rfl, rfl⟩
  go_wp2_with fail
  refine (Hid.out CR _).mono ?_
  rintro e w2 ⟨rfl, rfl⟩
  go_wp2_with fail
  refine (Hid.out CU _).mono ?_
  rintro e w2 ⟨rfl, b2⟩
  clear p0
  have S2 := Lib.hid (S1.out.next b2)
  obtain ⟨_, _, p0, _, _⟩ := S2.out
  go_wp2_with fail
  refine (Hid.out CT _).mono ?_
  rintro e w3 ⟨rfl, rfl⟩
  go_wp2_with fail
  refine (Hid.out cA _).mono ?_
  rintro e w3 ⟨rfl, b3⟩
  go_wp2
  go_ret
  exact ⟨rfl, (S2.out.next b3).2.1⟩

set_option maxRecDepth 20000 in
theorem charges_g_ok (r t x l : Int) (h0 : decide (r < 0) = false) (h1 : decide (1048575 < r) = false) (h2 : decide (x < 0) = false) (h3 : decide (1048576 < x) = false) (h4 : decide (l < 0) = false) (h5 : decide (1073741824 < l) = false) (l0 : (l == 0) = false) (x0 : (x == 0) = false) (a b : Int) (CT : RcC r 1099511627775 x a b) (g : decide (a < l) = false) (q c d c' d' : Int) (q0 : 1 ≤ q) (q1 : q ≤ 1099511627775) (C1 : RcC r q x c d) (C2 : RcC r (q - 1) x c' d') (g1 : decide (l ≤ c) = true) (g2 : decide (c' < l) = true) (n y : Int) (CH : ChC r t x n y 0) (CW : WrC r t x 0) (CR : RcC r t x n y) (CU : UnC r l x q 0) (cA : AwG) (w : World) :
    Calls Try.prog 4 #[.agg #[.int .i64 r], .int .i64 t, .agg #[.int .i64 x, .int .i64 l]] w fun E w' => E = .returned (.bool true) ∧ Below w.heap.size w w' := by
  have S0 := Lib.hid (One2.start w r x l 34 35)
  go_enter Try.func4, Try.ntmps4
  go_wp2_with fail
  refine (Hid.out CH _).mono ?_
  rintro e w1 ⟨rfl, b1⟩
  have S1 := Lib.hid ((S0.out.next b1).alloc (.cells #[.int .i64 y] 34))
  obtain ⟨_, _, p0, _, _⟩ := (S0.out.next b1)
  have lt1 : w.heap.size < w1.heap.size := by have := (S0.out.next b1).1; omega
  go_wp2_with fail
  refine (Hid.out CW _).mono ?_
  rintro e w2 ⟨rfl, rfl⟩
  go_wp2_with fail
  refine (Hid.out CR _).mono ?_
  rintro e w2 ⟨rfl, rfl⟩
  go_wp2_with fail
  refine (Hid.out CU _).mono ?_
  rintro e w2 ⟨rfl, b2⟩
  clear p0
  have S2 := Lib.hid (S1.out.next b2)
  obtain ⟨_, _, p0, _, _⟩ := S2.out
  go_wp2_with fail
  refine (Hid.out CT _).mono ?_
  rintro e w3 ⟨rfl, rfl⟩
  go_wp2_with fail
  refine (Hid.out C1 _).mono ?_
  rintro e w3 ⟨rfl, rfl⟩
  go_wp2_with fail
  refine (Hid.out C2 _).mono ?_
  rintro e w3 ⟨rfl, rfl⟩
  go_wp2_with fail
  refine (Hid.out cA _).mono ?_
  rintro e w3 ⟨rfl, b3⟩
  go_wp2
  go_ret
  exact ⟨rfl, (S2.out.next b3).2.1⟩

end Go.Proofs.Ythncchngphlcfaa
