/-
  admit: Check, pick, bound, Bound, ask: what they answer.
-/
import Derived.Test.YtfjepkakimhbbaaRatW
import Derived.Test.YtfjepkakimhbbaaRatC
import Derived.Test.YtfjepkakimhbbaaLy
namespace Go.Proofs.Ytfjepkakimhbbaa
open Go.RowKit
set_option linter.unusedVariables false
set_option linter.unusedSimpArgs false

/-- A block of three cells, whole. -/
def Box3 (W : World) (b : Nat) (T : TypeId) (x y z : Value) : Prop := W.heap[b]? = some (.cells #[x, y, z] T (0, 0))
theorem Box3.c0 {W : World} {b : Nat} {T : TypeId} {x y z : Value} (h : Box3 W b T x y z) : W.cell? ⟨b, 0, none⟩ = some x := by unfold Box3 at h; simp [World.cell?, h]
theorem Box3.c1 {W : World} {b : Nat} {T : TypeId} {x y z : Value} (h : Box3 W b T x y z) : W.cell? ⟨b, 1, none⟩ = some y := by unfold Box3 at h; simp [World.cell?, h]
theorem Box3.c2 {W : World} {b : Nat} {T : TypeId} {x y z : Value} (h : Box3 W b T x y z) : W.cell? ⟨b, 2, none⟩ = some z := by unfold Box3 at h; simp [World.cell?, h]
theorem Box3.lt {W : World} {b : Nat} {T : TypeId} {x y z : Value} (h : Box3 W b T x y z) : b < W.heap.size := (Array.getElem?_eq_some_iff.1 h).1
theorem Box3.kept {W W' : World} {b : Nat} {T : TypeId} {x y z : Value} (h : Box3 W b T x y z) (k : W'.heap[b]? = W.heap[b]?) : Box3 W' b T x y z := k.trans h
theorem Box3.next {W W' : World} {b B : Nat} {T : TypeId} {x y z : Value} (h : Box3 W b T x y z) (k : Below B W W') (hB : b < B) : Box3 W' b T x y z := (k.block b hB).trans h
theorem Box3.next' {W W' : World} {b : Nat} {T : TypeId} {x y z : Value} (h : Box3 W b T x y z) (k : Below W.heap.size W W') : Box3 W' b T x y z := h.next k h.lt
theorem Box3.start (w : World) (T : TypeId) (x y z : Value) : Box3 (w.alloc (.cells #[x, y, z] T)) w.heap.size T x y z := heap_alloc_new w _

/-- A rule's value. -/
abbrev ruV (h : Bool) (c k : Int) : Value := .agg #[.bool h, .int .i64 c, .int .i64 k]
/-- Params' value. -/
abbrev paV (p : Int × Int × Int) : Value := .agg #[.int .i64 p.1, .int .i64 p.2.1, .int .i64 p.2.2]

/-- What admit.Check answers. -/
def ruleE (c k : Int) : Int := if c < 0 ∨ 1048576 < c ∨ k < 1 ∨ 16 < k then 1 else 0
theorem ruleE_two (c k : Int) : ruleE c k = 0 ∨ ruleE c k = 1 := by unfold ruleE; split <;> simp
theorem ruleE_may {c k : Int} (h : ruleE c k = 0) : (0 ≤ c ∧ c ≤ 1048576) ∧ 1 ≤ k ∧ k ≤ 16 := by
  unfold ruleE at h
  split at h
  · cases h
  · omega

theorem acheck_any (h : Bool) (c k : Int) (w : World) :
    Calls Try.prog 13 #[ruV h c k] w fun e w' => e = .returned (.int .i64 (ruleE c k)) ∧ Below w.heap.size w w' := by
  have B := fun o => (Below.refl w.heap.size w).alloc (Nat.le_refl _) o
  by_cases h1 : c < 0
  · have e : ruleE c k = 1 := if_pos (by omega)
    rw [e]
    have h1' : decide (c < 0) = true := by simpa using h1
    go_enter Try.func13, Try.ntmps13
    go_wp2
    go_ret
    exact ⟨rfl, B _⟩
  have h1' : decide (c < 0) = false := by simpa using h1
  by_cases h2 : 1048576 < c
  · have e : ruleE c k = 1 := if_pos (by omega)
    rw [e]
    have h2' : decide (1048576 < c) = true := by simpa using h2
    go_enter Try.func13, Try.ntmps13
    go_wp2
    go_ret
    exact ⟨rfl, B _⟩
  have h2' : decide (1048576 < c) = false := by simpa using h2
  by_cases h3 : k < 1
  · have e : ruleE c k = 1 := if_pos (by omega)
    rw [e]
    have h3' : decide (k < 1) = true := by simpa using h3
    go_enter Try.func13, Try.ntmps13
    go_wp2
    go_ret
    exact ⟨rfl, B _⟩
  have h3' : decide (k < 1) = false := by simpa using h3
  by_cases h4 : 16 < k
  · have e : ruleE c k = 1 := if_pos (by omega)
    rw [e]
    have h4' : decide (16 < k) = true := by simpa using h4
    go_enter Try.func13, Try.ntmps13
    go_wp2
    go_ret
    exact ⟨rfl, B _⟩
  · have e : ruleE c k = 0 := if_neg (by omega)
    rw [e]
    have h4' : decide (16 < k) = false := by simpa using h4
    go_enter Try.func13, Try.ntmps13
    go_wp2
    go_ret
    exact ⟨rfl, B _⟩

theorem picki_any (h : Bool) (c k x y : Int) (w : World) :
    Calls Try.prog 35 #[ruV h c k, .int .i64 x, .int .i64 y] w fun e w' => e = .returned (.int .i64 (if h = true then x else y)) ∧ Below w.heap.size w w' := by
  have B := fun o => (Below.refl w.heap.size w).alloc (Nat.le_refl _) o
  cases h with
  | true =>
    go_enter Try.func35, Try.ntmps35
    go_wp2
    go_ret
    exact ⟨rfl, B _⟩
  | false =>
    go_enter Try.func35, Try.ntmps35
    go_wp2
    go_ret
    exact ⟨rfl, B _⟩

theorem pickf_any (h : Bool) (c k : Int) (f g : Value) (w : World) :
    Calls Try.prog 38 #[ruV h c k, f, g] w fun e w' => e = .returned (if h = true then f else g) ∧ Below w.heap.size w w' := by
  have B := fun o => (Below.refl w.heap.size w).alloc (Nat.le_refl _) o
  cases h with
  | true =>
    go_enter Try.func38, Try.ntmps38
    go_wp2
    go_ret
    exact ⟨rfl, B _⟩
  | false =>
    go_enter Try.func38, Try.ntmps38
    go_wp2
    go_ret
    exact ⟨rfl, B _⟩

/-- How much servers may ask for. -/
def boundN (h : Bool) (c k m : Int) : Int := if h = true then k * 1048576 - (k - 1) * m else c * k
theorem wrapA {x : Int} (h : -9223372036854775808 ≤ x) (h' : x ≤ 9223372036854775807) : wrap64 x = x := by unfold wrap64; omega
theorem bound_in {c k m : Int} (h : ruleE c k = 0) (m0 : 0 ≤ m) (m1 : m ≤ 1048576) :
    (0 ≤ (k - 1) * m ∧ (k - 1) * m ≤ 15 * 1048576) ∧ (0 ≤ c * k ∧ c * k ≤ 1048576 * 16) ∧ (1048576 ≤ k * 1048576 - (k - 1) * m ∧ k * 1048576 - (k - 1) * m ≤ 16 * 1048576) := by
  obtain ⟨⟨c0, c1⟩, k0, k1⟩ := ruleE_may h
  have a0 : 0 ≤ (k - 1) * m := Int.mul_nonneg (by omega) m0
  have a1 : (k - 1) * m ≤ 15 * 1048576 := Int.mul_le_mul (by omega) m1 m0 (by omega)
  have a2 : (k - 1) * m ≤ (k - 1) * 1048576 := Int.mul_le_mul_of_nonneg_left m1 (by omega)
  have b0 : 0 ≤ c * k := Int.mul_nonneg c0 (by omega)
  have b1 : c * k ≤ 1048576 * 16 := Int.mul_le_mul c1 k1 (by omega) (by omega)
  exact ⟨⟨a0, a1⟩, ⟨b0, b1⟩, by omega, by omega⟩
theorem boundN_in (h : Bool) {c k m : Int} (hr : ruleE c k = 0) (m0 : 0 ≤ m) (m1 : m ≤ 1048576) : 0 ≤ boundN h c k m ∧ boundN h c k m ≤ 16777216 := by
  obtain ⟨_, b, d⟩ := bound_in hr m0 m1
  unfold boundN
  split <;> omega

theorem abound_any (h : Bool) (c k m : Int) (hr : ruleE c k = 0) (m0 : 0 ≤ m) (m1 : m ≤ 1048576) (w : World) :
    Calls Try.prog 25 #[ruV h c k, .int .i64 m] w fun e w' => e = .returned (.int .i64 (boundN h c k m)) ∧ Below w.heap.size w w' := by
  obtain ⟨⟨a0, a1⟩, ⟨b0, b1⟩, d0, d1⟩ := bound_in hr m0 m1
  obtain ⟨⟨c0, c1⟩, k0, k1⟩ := ruleE_may hr
  have e1 : wrap64 (k * 1048576 - wrap64 ((k - 1) * m)) = k * 1048576 - (k - 1) * m := by
    rw [wrapA (x := (k - 1) * m) (by omega) (by omega), wrapA (by omega) (by omega)]
  have e2 : wrap64 (c * k) = c * k := wrapA (by omega) (by omega)
  have C1 : Hid (∀ W, Calls Try.prog 35 #[ruV h c k, .int .i64 (k * 1048576 - (k - 1) * m), .int .i64 (c * k)] W fun e w' => e = .returned (.int .i64 (boundN h c k m)) ∧ Below W.heap.size W w') := fun W => picki_any h c k (k * 1048576 - (k - 1) * m) (c * k) W
  have S0 := Lib.hid (Box3.start w 23 (.bool h) (.int .i64 c) (.int .i64 k))
  have E1 := Lib.hid e1
  have E2 := Lib.hid e2
  clear e1 e2 a0 a1 b0 b1 d0 d1
  go_enter Try.func25, Try.ntmps25
  go_wp2_with fail
  rw [E1.out, E2.out]
  refine (C1.out _).mono ?_
  rintro e w1 ⟨rfl, b1⟩
  go_wp2
  go_ret
  exact ⟨rfl, (below_alloc b1)⟩

/-- What Bound answers. -/
def BoundR (h : Bool) (c k m : Int) : Int × Int := if ruleE c k = 0 then (if m < 0 ∨ 1048576 < m then (0, 10) else (boundN h c k m, 0)) else (0, 1)
theorem aBound_any (h : Bool) (c k m : Int) (w : World) :
    Calls Try.prog 11 #[ruV h c k, .int .i64 m] w fun e w' => e = .returned (.tuple #[.int .i64 (BoundR h c k m).1, .int .i64 (BoundR h c k m).2]) ∧ Below w.heap.size w w' := by
  have C1 := Lib.hid (fun W => acheck_any h c k W)
  have S0 := Lib.hid (Box3.start w 23 (.bool h) (.int .i64 c) (.int .i64 k))
  have B0 := Lib.hid (fun o => (Below.refl w.heap.size w).alloc (Nat.le_refl _) o)
  rcases ruleE_two c k with hr | hr
  · rw [hr] at C1
    by_cases m0 : m < 0
    · have e : BoundR h c k m = (0, 10) := by unfold BoundR; rw [if_pos hr, if_pos (Or.inl m0)]
      rw [e]
      have m0' : decide (m < 0) = true := decide_eq_true m0
      clear e
      go_enter Try.func11, Try.ntmps11
      go_wp2_with fail
      refine (C1.out _).mono ?_
      rintro e w1 ⟨rfl, b1⟩
      go_wp2
      go_ret2
      exact ⟨rfl, below_alloc b1⟩
    have m0' : decide (m < 0) = false := decide_eq_false m0
    by_cases m1 : 1048576 < m
    · have e : BoundR h c k m = (0, 10) := by unfold BoundR; rw [if_pos hr, if_pos (Or.inr m1)]
      rw [e]
      have m1' : decide (1048576 < m) = true := decide_eq_true m1
      clear e
      go_enter Try.func11, Try.ntmps11
      go_wp2_with fail
      refine (C1.out _).mono ?_
      rintro e w1 ⟨rfl, b1⟩
      go_wp2
      go_ret2
      exact ⟨rfl, below_alloc b1⟩
    · have m1' : decide (1048576 < m) = false := decide_eq_false m1
      have e : BoundR h c k m = (boundN h c k m, 0) := by unfold BoundR; rw [if_pos hr, if_neg (by omega)]
      rw [e]
      have C2 := Lib.hid (fun W => abound_any h c k m hr (by omega) (by omega) W)
      clear e
      go_enter Try.func11, Try.ntmps11
      go_wp2_with fail
      refine (C1.out _).mono ?_
      rintro e w1 ⟨rfl, b1⟩
      have S1 := Lib.hid (S0.out.next' b1)
      have p0 := S1.out.c0
      have p1 := S1.out.c1
      have p2 := S1.out.c2
      go_wp2_with fail
      refine (C2.out _).mono ?_
      rintro e w2 ⟨rfl, b2⟩
      go_wp2
      go_ret2
      exact ⟨rfl, (below_alloc b1).trans (b2.mono (below_alloc b1).size)⟩
  · rw [hr] at C1
    have e : BoundR h c k m = (0, 1) := by unfold BoundR; rw [if_neg (by omega)]
    rw [e]
    clear e
    go_enter Try.func11, Try.ntmps11
    go_wp2_with fail
    refine (C1.out _).mono ?_
    rintro e w1 ⟨rfl, b1⟩
    go_wp2
    go_ret2
    exact ⟨rfl, below_alloc b1⟩

/-- What a server asks for, or what is wrong. -/
def askR (h : Bool) (p : Int × Int × Int) : Int × Int := useR (if h = true then p.2.1 else p.2.2) p.1 p.2.1 p.2.2
/-- Numbers that fit. -/
def Fit (p : Int × Int × Int) : Prop := Is64 p.1 ∧ Is64 p.2.1 ∧ Is64 p.2.2

set_option maxHeartbeats 1000000 in
theorem ask_xyz (h : Bool) (c k x y z : Int) (hq : Is64 x) (hd : Is64 y) (ht : Is64 z) (w : World) :
    Calls Try.prog 30 #[.agg #[.bool h, .int .i64 c, .int .i64 k], .agg #[.int .i64 x, .int .i64 y, .int .i64 z]] w fun e w' => e = .returned (.tuple #[.int .i64 (askR h (x, y, z)).1, .int .i64 (askR h (x, y, z)).2]) ∧ Below w.heap.size w w' := by
  have mixed : Try.prog.follows .mixedOrders = true := by kernel_rfl
  obtain ⟨W0, hW0⟩ : ∃ W0, (w.alloc (.cells #[.bool h, .int .i64 c, .int .i64 k] 23)).alloc (.cells #[.int .i64 x, .int .i64 y, .int .i64 z] 40) = W0 := ⟨_, rfl⟩
  have s0 : Box3 W0 w.heap.size 23 (.bool h) (.int .i64 c) (.int .i64 k) := by
    rw [← hW0]
    exact (Box3.start w 23 (.bool h) (.int .i64 c) (.int .i64 k)).next' ((Below.refl _ _).alloc (Nat.le_refl _) _)
  have s1 : Box3 W0 (w.heap.size + 1) 40 (.int .i64 x) (.int .i64 y) (.int .i64 z) := by
    rw [← hW0]
    have := Box3.start (w.alloc (.cells #[.bool h, .int .i64 c, .int .i64 k] 23)) 40 (.int .i64 x) (.int .i64 y) (.int .i64 z)
    simpa using this
  have B0 : Hid (Below w.heap.size w W0) := by
    rw [← hW0]
    exact ((Below.refl _ _).alloc (Nat.le_refl _) _).alloc (by simp) _
  have C2 := Lib.hid (fun W => dense_any x y z hq hd W)
  have C3 := Lib.hid (fun W => use_any x y z hq ht W)
  have HW := Lib.hid hW0
  have L0 := Lib.hid (And.intro s0 s1)
  clear hW0 s0 s1
  haveI : Inhabited (LiesB W0) := ⟨⟨W0, Below.refl _ _⟩⟩
  have f0 : ∀ q : LiesB W0, q.v.cell? ⟨w.heap.size, 0, none⟩ = some (.bool h) := fun q => (L0.out.1.next' q.h).c0
  have f1 : ∀ q : LiesB W0, q.v.cell? ⟨w.heap.size, 1, none⟩ = some (.int .i64 c) := fun q => (L0.out.1.next' q.h).c1
  have f2 : ∀ q : LiesB W0, q.v.cell? ⟨w.heap.size, 2, none⟩ = some (.int .i64 k) := fun q => (L0.out.1.next' q.h).c2
  have f3 : ∀ q : LiesB W0, q.v.cell? ⟨w.heap.size + 1, 0, none⟩ = some (.int .i64 x) := fun q => (L0.out.2.next' q.h).c0
  have f4 : ∀ q : LiesB W0, q.v.cell? ⟨w.heap.size + 1, 1, none⟩ = some (.int .i64 y) := fun q => (L0.out.2.next' q.h).c1
  have f5 : ∀ q : LiesB W0, q.v.cell? ⟨w.heap.size + 1, 2, none⟩ = some (.int .i64 z) := fun q => (L0.out.2.next' q.h).c2
  cases h with
  | true =>
    have D1 : ∀ q : LiesB W0, Hid (Calls Try.prog 38 #[ruV true c k, .func (.func 39) #[] #[], .func (.func 40) #[] #[]] q.v fun e w' => e = .returned (.func (.func 39) #[] #[]) ∧ LyingB W0 w') := fun q => lies_call (fun W => pickf_any true c k (.func (.func 39) #[] #[]) (.func (.func 40) #[] #[]) W) q
    have e : askR true (x, y, z) = useR y x y z := rfl
    have D2 : ∀ q : LiesB W0, Hid (Calls Try.prog 39 #[.agg #[.int .i64 x, .int .i64 y, .int .i64 z]] q.v fun e w' => e = .returned (.tuple #[.int .i64 (useR y x y z).1, .int .i64 (useR y x y z).2]) ∧ LyingB W0 w') := fun q => lies_call C2.out q
    rw [e]
    clear e C2 C3 L0
    generalize useR y x y z = r at *
    go_enter Try.func30, Try.ntmps30
    go_wp2_with fail
    rw [HW.out]
    refine region_lies mixedT (by kernel_rfl) ?_
    repeat (go_big_quiet_step (first | (go_at_call 38; (with_reducible exact (D1 _).out)) | (go_at_call 39; (with_reducible exact (D2 _).out))))
    refine wpQuiet_nil ?_
    rintro _ ⟨q2, rfl⟩
    go_wp2_with fail
    go_ret2
    exact ⟨rfl, B0.out.trans (q2.h.mono B0.out.size)⟩
  | false =>
    have D1 : ∀ q : LiesB W0, Hid (Calls Try.prog 38 #[ruV false c k, .func (.func 39) #[] #[], .func (.func 40) #[] #[]] q.v fun e w' => e = .returned (.func (.func 40) #[] #[]) ∧ LyingB W0 w') := fun q => lies_call (fun W => pickf_any false c k (.func (.func 39) #[] #[]) (.func (.func 40) #[] #[]) W) q
    have e : askR false (x, y, z) = useR z x y z := rfl
    have D2 : ∀ q : LiesB W0, Hid (Calls Try.prog 40 #[.agg #[.int .i64 x, .int .i64 y, .int .i64 z]] q.v fun e w' => e = .returned (.tuple #[.int .i64 (useR z x y z).1, .int .i64 (useR z x y z).2]) ∧ LyingB W0 w') := fun q => lies_call C3.out q
    rw [e]
    clear e C2 C3 L0
    generalize useR z x y z = r at *
    go_enter Try.func30, Try.ntmps30
    go_wp2_with fail
    rw [HW.out]
    refine region_lies mixedT (by kernel_rfl) ?_
    repeat (go_big_quiet_step (first | (go_at_call 38; (with_reducible exact (D1 _).out)) | (go_at_call 40; (with_reducible exact (D2 _).out))))
    refine wpQuiet_nil ?_
    rintro _ ⟨q2, rfl⟩
    go_wp2_with fail
    go_ret2
    exact ⟨rfl, B0.out.trans (q2.h.mono B0.out.size)⟩
theorem ask_any (h : Bool) (c k : Int) (p : Int × Int × Int) (hp : Fit p) (w : World) :
    Calls Try.prog 30 #[ruV h c k, paV p] w fun e w' => e = .returned (.tuple #[.int .i64 (askR h p).1, .int .i64 (askR h p).2]) ∧ Below w.heap.size w w' := ask_xyz h c k p.1 p.2.1 p.2.2 hp.1 hp.2.1 hp.2.2 w
end Go.Proofs.Ytfjepkakimhbbaa
