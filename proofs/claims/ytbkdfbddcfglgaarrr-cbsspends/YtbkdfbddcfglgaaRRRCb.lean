/-
  The walks of cbs.Fresh and cbs.Charge.
-/
import Derived.Test.YtbkdfbddcfglgaaRRRCa
namespace Go.Proofs.YtbkdfbddcfglgaaRRR
open Go.RowKit
set_option linter.unusedVariables false
set_option linter.unusedSimpArgs false

/-- A block of three numbers, known whole. -/
def B3 (W : World) (b : Nat) (T : TypeId) (x y z : Int) : Prop := W.heap[b]? = some (.cells #[.int .i64 x, .int .i64 y, .int .i64 z] T (0, 0))
theorem B3.lt {W : World} {b : Nat} {T : TypeId} {x y z : Int} (h : B3 W b T x y z) : b < W.heap.size := (Array.getElem?_eq_some_iff.1 h).1
theorem B3.cells {W : World} {b : Nat} {T : TypeId} {x y z : Int} (h : B3 W b T x y z) : W.cell? ⟨b, 0, none⟩ = some (.int .i64 x) ∧ W.cell? ⟨b, 1, none⟩ = some (.int .i64 y) ∧ W.cell? ⟨b, 2, none⟩ = some (.int .i64 z) := by
  unfold B3 at h
  refine ⟨?_, ?_, ?_⟩ <;> simp [World.cell?, h]
theorem B3.thaw {W : World} {b : Nat} {T : TypeId} {x y z : Int} (h : B3 W b T x y z) : W.frozen? ⟨b, 0, none⟩ = false ∧ W.frozen? ⟨b, 1, none⟩ = false ∧ W.frozen? ⟨b, 2, none⟩ = false := by
  unfold B3 at h
  refine ⟨?_, ?_, ?_⟩ <;> simp [World.frozen?, h]
theorem B3.next {W W' : World} {b : Nat} {T : TypeId} {x y z : Int} (h : B3 W b T x y z) (hb : Below W.heap.size W W') : B3 W' b T x y z := (hb.block b h.lt).trans h
theorem B3.start (w : World) (T : TypeId) (x y z : Int) : B3 (w.alloc (.cells #[.int .i64 x, .int .i64 y, .int .i64 z] T)) w.heap.size T x y z := by
  unfold B3
  show (w.heap.push _)[w.heap.size]? = _
  simp
theorem B3.alloc {W : World} {b : Nat} {T : TypeId} {x y z : Int} (h : B3 W b T x y z) (o : Obj) : B3 (W.alloc o) b T x y z := h.next ((Below.refl _ _).alloc (Nat.le_refl _) _)

/-- Two and three blocks that a function made at its beginning. -/
def Two3 (w W : World) (T T' : TypeId) (a b c x y z : Int) : Prop := Below w.heap.size w W ∧ B3 W w.heap.size T a b c ∧ B3 W (w.heap.size + 1) T' x y z
theorem Two3.next {w W W' : World} {T T' : TypeId} {a b c x y z : Int} (h : Two3 w W T T' a b c x y z) (hb : Below W.heap.size W W') : Two3 w W' T T' a b c x y z :=
  ⟨h.1.trans (hb.mono h.1.size), h.2.1.next hb, h.2.2.next hb⟩
theorem Two3.start (w : World) (T T' : TypeId) (a b c x y z : Int) : Two3 w ((w.alloc (.cells #[.int .i64 a, .int .i64 b, .int .i64 c] T)).alloc (.cells #[.int .i64 x, .int .i64 y, .int .i64 z] T')) T T' a b c x y z :=
  ⟨((Below.refl _ _).alloc (Nat.le_refl _) _).alloc (by simp) _, (B3.start w T a b c).alloc _, (by have := B3.start (w.alloc (.cells #[.int .i64 a, .int .i64 b, .int .i64 c] T)) T' x y z; simpa using this)⟩
theorem Two3.out {w W : World} {T T' : TypeId} {a b c x y z : Int} (h : Two3 w W T T' a b c x y z) (u v r : Value) : Below w.heap.size w (((W.setCell ⟨w.heap.size + 1, 0, none⟩ u).setCell ⟨w.heap.size + 1, 1, none⟩ v).setCell ⟨w.heap.size + 1, 2, none⟩ r) :=
  ((h.1.setCell (Nat.le_succ _) _).setCell (Nat.le_succ _) _).setCell (Nat.le_succ _) _
def Tri3 (w W : World) (T T' T2 : TypeId) (a b c x y z r s t : Int) : Prop := Below w.heap.size w W ∧ B3 W w.heap.size T a b c ∧ B3 W (w.heap.size + 1) T' x y z ∧ B3 W (w.heap.size + 1 + 1) T2 r s t
theorem Tri3.next {w W W' : World} {T T' T2 : TypeId} {a b c x y z r s t : Int} (h : Tri3 w W T T' T2 a b c x y z r s t) (hb : Below W.heap.size W W') : Tri3 w W' T T' T2 a b c x y z r s t :=
  ⟨h.1.trans (hb.mono h.1.size), h.2.1.next hb, h.2.2.1.next hb, h.2.2.2.next hb⟩
theorem Tri3.start (w : World) (T T' T2 : TypeId) (a b c x y z r s t : Int) : Tri3 w (((w.alloc (.cells #[.int .i64 a, .int .i64 b, .int .i64 c] T)).alloc (.cells #[.int .i64 x, .int .i64 y, .int .i64 z] T')).alloc (.cells #[.int .i64 r, .int .i64 s, .int .i64 t] T2)) T T' T2 a b c x y z r s t := by
  have h := Two3.start w T T' a b c x y z
  have k := B3.start ((w.alloc (.cells #[.int .i64 a, .int .i64 b, .int .i64 c] T)).alloc (.cells #[.int .i64 x, .int .i64 y, .int .i64 z] T')) T2 r s t
  exact ⟨h.1.alloc (by simp; omega) _, h.2.1.alloc _, h.2.2.alloc _, by simpa using k⟩

/-- What cbs.Fresh says is wrong. -/
def freshE (now q d t : Int) : Int := if checkE q d t = 0 then afterE now t else 1

set_option maxHeartbeats 1000000 in
theorem fresh_bad (now q d t : Int) (h : freshE now q d t ≠ 0) (w : World) :
    Calls Try.prog 22 #[.int .i64 now, .agg #[.int .i64 q, .int .i64 d, .int .i64 t]] w fun E w' => E = .returned (.tuple #[.agg #[.int .i64 0, .int .i64 0, .int .i64 0], .int .i64 (freshE now q d t)]) ∧ Below w.heap.size w w' := by
  have S0 := Lib.hid (Two3.start w 23 25 q d t 0 0 0)
  have c1 := fun W => check_any q d t W
  have c2 := Lib.hid (fun W => after_any now t W)
  by_cases h1 : checkE q d t = 0
  · have x : freshE now q d t = afterE now t := if_pos h1
    rw [x] at h ⊢
    rw [h1] at c1
    have C1 := Lib.hid c1
    have h' : (afterE now t != 0) = true := by simpa using h
    clear c1 x h1 h
    generalize afterE now t = e at *
    generalize afterN now t = n at *
    go_enter Try.func22, Try.ntmps22
    go_wp2_with fail
    refine (C1.out _).mono ?_
    rintro E w1 ⟨rfl, b1⟩
    have S1 := Lib.hid (S0.out.next b1)
    obtain ⟨p0, p1, p2⟩ := S1.out.2.1.cells
    obtain ⟨r0, r1, r2⟩ := S1.out.2.2.cells
    obtain ⟨f0, f1, f2⟩ := S1.out.2.2.thaw
    go_wp2_with fail
    refine (c2.out _).mono ?_
    rintro E w2 ⟨rfl, rfl⟩
    go_wp2
    exact bodyPost_ret (v := .tuple #[.agg #[.int .i64 0, .int .i64 0, .int .i64 0], .int .i64 e]) (by simp [results, Try.results22, go_sem, r0, r1, r2]) rfl ⟨rfl, S1.out.out _ _ _⟩
  · have x : freshE now q d t = 1 := if_neg h1
    rw [x]
    rw [checkE_ne h1] at c1
    have C1 := Lib.hid c1
    clear c1 x h1 h c2
    go_enter Try.func22, Try.ntmps22
    go_wp2_with fail
    refine (C1.out _).mono ?_
    rintro E w1 ⟨rfl, b1⟩
    have S1 := Lib.hid (S0.out.next b1)
    obtain ⟨r0, r1, r2⟩ := S1.out.2.2.cells
    obtain ⟨f0, f1, f2⟩ := S1.out.2.2.thaw
    go_wp2
    exact bodyPost_ret (v := .tuple #[.agg #[.int .i64 0, .int .i64 0, .int .i64 0], .int .i64 1]) (by simp [results, Try.results22, go_sem, r0, r1, r2]) rfl ⟨rfl, S1.out.out _ _ _⟩

set_option maxHeartbeats 1000000 in
theorem fresh_ok (now q d t : Int) (h : freshE now q d t = 0) (w : World) :
    Calls Try.prog 22 #[.int .i64 now, .agg #[.int .i64 q, .int .i64 d, .int .i64 t]] w fun E w' => E = .returned (.tuple #[.agg #[.int .i64 q, .int .i64 (now + d), .int .i64 (now + t)], .int .i64 0]) ∧ Below w.heap.size w w' := by
  have S0 := Lib.hid (Two3.start w 23 25 q d t 0 0 0)
  have c1 := fun W => check_any q d t W
  have c2 := fun W => after_any now t W
  have h1 : checkE q d t = 0 := by
    by_cases h1 : checkE q d t = 0
    · exact h1
    · exact absurd (h.symm.trans (if_neg h1)) (by decide)
  have h2 : afterE now t = 0 := by
    unfold freshE at h
    rwa [if_pos h1] at h
  have h3 : afterN now t = now + t := if_pos h2
  have h4 : 1 ≤ q ∧ q ≤ d ∧ d ≤ t ∧ t ≤ 1073741824 := by
    by_cases hh : q < 1 ∨ d < q ∨ t < d ∨ 1073741824 < t
    · exact absurd (h1.symm.trans (if_pos hh)) (by decide)
    · omega
  have h5 : 0 ≤ now ∧ now < 1099511627776 := by
    by_cases hh : now < 0 ∨ 1099511627776 ≤ now
    · have := timeE_ne hh
      unfold afterE at h2
      rw [if_neg this] at h2
      exact absurd h2 this
    · omega
  obtain ⟨q0, q1, q2, q3⟩ := h4
  obtain ⟨n0, n1⟩ := h5
  rw [h1] at c1
  rw [h2, h3] at c2
  have C1 := Lib.hid c1
  have C2 := Lib.hid c2
  clear c1 c2 h1 h2 h3 h
  have d0 : 0 ≤ d := by omega
  have t0 : 0 ≤ t := by omega
  have d1 : d ≤ 1073741824 := by omega
  go_enter Try.func22, Try.ntmps22
  go_wp2_with fail
  refine (C1.out _).mono ?_
  rintro E w1 ⟨rfl, b1⟩
  have S1 := Lib.hid (S0.out.next b1)
  obtain ⟨p0, p1, p2⟩ := S1.out.2.1.cells
  obtain ⟨r0, r1, r2⟩ := S1.out.2.2.cells
  obtain ⟨f0, f1, f2⟩ := S1.out.2.2.thaw
  go_wp2_with fail
  refine (C2.out _).mono ?_
  rintro E w2 ⟨rfl, rfl⟩
  go_wp2
  exact bodyPost_ret (v := .tuple #[.agg #[.int .i64 q, .int .i64 (now + d), .int .i64 (now + t)], .int .i64 0]) (by simp [results, Try.results22, go_sem, r0, r1, r2]) rfl ⟨rfl, S1.out.out _ _ _⟩

/-- What cbs.Charge says is wrong. -/
def chargeE (l e n s : Int) : Int := if numE l e n = 0 then (if s < 0 ∨ l + 1073741824 < s then 10 else 0) else numE l e n

set_option maxHeartbeats 1000000 in
theorem charge_bad1 (l e n s : Int) (h : numE l e n ≠ 0) (w : World) :
    Calls Try.prog 7 #[.agg #[.int .i64 l, .int .i64 e, .int .i64 n], .int .i64 s] w fun E w' => E = .returned (.tuple #[.agg #[.int .i64 0, .int .i64 0, .int .i64 0], .int .i64 (numE l e n)]) ∧ Below w.heap.size w w' := by
  have S0 := Lib.hid (Two3.start w 25 25 l e n 0 0 0)
  have C1 := Lib.hid (fun W => ccheck_any l e n W)
  have h' : (numE l e n != 0) = true := by simpa using h
  clear h
  generalize numE l e n = x at *
  go_enter Try.func7, Try.ntmps7
  go_wp2_with fail
  refine (C1.out _).mono ?_
  rintro E w1 ⟨rfl, b1⟩
  have S1 := Lib.hid (S0.out.next b1)
  obtain ⟨r0, r1, r2⟩ := S1.out.2.2.cells
  obtain ⟨f0, f1, f2⟩ := S1.out.2.2.thaw
  go_wp2
  exact bodyPost_ret (v := .tuple #[.agg #[.int .i64 0, .int .i64 0, .int .i64 0], .int .i64 x]) (by simp [results, Try.results7, go_sem, r0, r1, r2]) rfl ⟨rfl, S1.out.out _ _ _⟩

set_option maxHeartbeats 1000000 in
theorem charge_bad2 (l e n s : Int) (h : numE l e n = 0) (l0 : -1073741824 ≤ l) (l1 : l ≤ 1073741824) (hs : s < 0 ∨ l + 1073741824 < s) (w : World) :
    Calls Try.prog 7 #[.agg #[.int .i64 l, .int .i64 e, .int .i64 n], .int .i64 s] w fun E w' => E = .returned (.tuple #[.agg #[.int .i64 0, .int .i64 0, .int .i64 0], .int .i64 10]) ∧ Below w.heap.size w w' := by
  have S0 := Lib.hid (Two3.start w 25 25 l e n 0 0 0)
  have c1 := fun W => ccheck_any l e n W
  rw [h] at c1
  have C1 := Lib.hid c1
  clear h c1
  by_cases s0 : s < 0
  · have s0' : decide (s < 0) = true := decide_eq_true s0
    clear hs
    go_enter Try.func7, Try.ntmps7
    go_wp2_with fail
    refine (C1.out _).mono ?_
    rintro E w1 ⟨rfl, b1⟩
    have S1 := Lib.hid (S0.out.next b1)
    obtain ⟨p0, p1, p2⟩ := S1.out.2.1.cells
    obtain ⟨r0, r1, r2⟩ := S1.out.2.2.cells
    obtain ⟨f0, f1, f2⟩ := S1.out.2.2.thaw
    go_wp2
    exact bodyPost_ret (v := .tuple #[.agg #[.int .i64 0, .int .i64 0, .int .i64 0], .int .i64 10]) (by simp [results, Try.results7, go_sem, r0, r1, r2]) rfl ⟨rfl, S1.out.out _ _ _⟩
  · have s0' : decide (s < 0) = false := decide_eq_false s0
    have s1' : decide (l + 1073741824 < s) = true := decide_eq_true (by omega)
    clear hs
    go_enter Try.func7, Try.ntmps7
    go_wp2_with fail
    refine (C1.out _).mono ?_
    rintro E w1 ⟨rfl, b1⟩
    have S1 := Lib.hid (S0.out.next b1)
    obtain ⟨p0, p1, p2⟩ := S1.out.2.1.cells
    obtain ⟨r0, r1, r2⟩ := S1.out.2.2.cells
    obtain ⟨f0, f1, f2⟩ := S1.out.2.2.thaw
    go_wp2
    exact bodyPost_ret (v := .tuple #[.agg #[.int .i64 0, .int .i64 0, .int .i64 0], .int .i64 10]) (by simp [results, Try.results7, go_sem, r0, r1, r2]) rfl ⟨rfl, S1.out.out _ _ _⟩

set_option maxHeartbeats 1000000 in
theorem charge_ok (l e n s : Int) (h : numE l e n = 0) (l0 : -1073741824 ≤ l) (l1 : l ≤ 1073741824) (s0 : 0 ≤ s) (s1 : s ≤ l + 1073741824) (w : World) :
    Calls Try.prog 7 #[.agg #[.int .i64 l, .int .i64 e, .int .i64 n], .int .i64 s] w fun E w' => E = .returned (.tuple #[.agg #[.int .i64 (l - s), .int .i64 e, .int .i64 n], .int .i64 0]) ∧ Below w.heap.size w w' := by
  have S0 := Lib.hid (Two3.start w 25 25 l e n 0 0 0)
  have c1 := fun W => ccheck_any l e n W
  rw [h] at c1
  have C1 := Lib.hid c1
  clear h c1
  have s0' : decide (s < 0) = false := decide_eq_false (by omega)
  have s1' : decide (l + 1073741824 < s) = false := decide_eq_false (by omega)
  have s2 : s ≤ 2147483648 := by omega
  go_enter Try.func7, Try.ntmps7
  go_wp2_with fail
  refine (C1.out _).mono ?_
  rintro E w1 ⟨rfl, b1⟩
  have S1 := Lib.hid (S0.out.next b1)
  obtain ⟨p0, p1, p2⟩ := S1.out.2.1.cells
  obtain ⟨g0, g1, g2⟩ := S1.out.2.1.thaw
  obtain ⟨r0, r1, r2⟩ := S1.out.2.2.cells
  obtain ⟨f0, f1, f2⟩ := S1.out.2.2.thaw
  go_wp2
  exact bodyPost_ret (v := .tuple #[.agg #[.int .i64 (l - s), .int .i64 e, .int .i64 n], .int .i64 0]) (by simp [results, Try.results7, go_sem, r0, r1, r2, p0, p1, p2]) rfl ⟨rfl, (((S1.out.1.setCell (Nat.le_refl _) _).setCell (Nat.le_succ _) _).setCell (Nat.le_succ _) _).setCell (Nat.le_succ _) _⟩
end Go.Proofs.YtbkdfbddcfglgaaRRR
