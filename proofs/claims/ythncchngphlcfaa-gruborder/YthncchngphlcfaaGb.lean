/-
  The walks of a meter's Charge and Until.
-/
import Derived.Test.YthncchngphlcfaaGa
import Derived.Test.YthncchngphlcfaaTime
import Derived.OwnWalk
namespace Go.Proofs.Ythncchngphlcfaa
open Go.RowKit
set_option linter.unusedVariables false

/-- A block of one number, while callees make blocks behind it. -/
def Arr1 (w W : World) (a : Int) : Prop := w.heap.size < W.heap.size ∧ Below w.heap.size w W ∧ W.cell? ⟨w.heap.size, 0, none⟩ = some (.int .i64 a)
theorem Arr1.next {w W W' : World} {a : Int} (h : Arr1 w W a) (hb : Below W.heap.size W W') : Arr1 w W' a := by
  obtain ⟨hz, hB, p0⟩ := h
  exact ⟨Nat.lt_of_lt_of_le hz hb.size, hB.trans (hb.mono hB.size), (hb.cell (p := ⟨w.heap.size, 0, none⟩) hz).trans p0⟩
theorem Arr1.start (w : World) (a : Int) (t : TypeId) : Arr1 w (w.alloc (.cells #[.int .i64 a] t)) a :=
  ⟨by simp, (Below.refl _ _).alloc (Nat.le_refl _) _, by simp [go_sem]⟩
theorem Arr1.done {w W W' : World} {a : Int} (h : Arr1 w W a) (hb : Below W.heap.size W W') : Below w.heap.size w W' := (h.next hb).2.1

/-- The same, with a block of one number that is 0 behind it. -/
theorem Arr1.start2 (w : World) (a : Int) (t t' : TypeId) (o : Obj) : Arr1 w ((w.alloc (.cells #[.int .i64 a] t)).alloc o) a :=
  (Arr1.start w a t).next ((Below.refl _ _).alloc (Nat.le_refl _) _)

/-- A block of one number, known whole. -/
def B1 (W : World) (b : Nat) (T : TypeId) (x : Int) : Prop := W.heap[b]? = some (.cells #[.int .i64 x] T (0, 0))
theorem B1.lt {W : World} {b : Nat} {T : TypeId} {x : Int} (h : B1 W b T x) : b < W.heap.size := (Array.getElem?_eq_some_iff.1 h).1
theorem B1.cell {W : World} {b : Nat} {T : TypeId} {x : Int} (h : B1 W b T x) : W.cell? ⟨b, 0, none⟩ = some (.int .i64 x) := by
  unfold B1 at h
  simp [World.cell?, h]
theorem B1.thaw {W : World} {b : Nat} {T : TypeId} {x : Int} (h : B1 W b T x) : W.frozen? ⟨b, 0, none⟩ = false := by
  unfold B1 at h
  simp [World.frozen?, h]
theorem B1.next {W W' : World} {b : Nat} {T : TypeId} {x : Int} (h : B1 W b T x) (hb : Below W.heap.size W W') : B1 W' b T x := (hb.block b h.lt).trans h
theorem B1.start (w : World) (T : TypeId) (x : Int) : B1 (w.alloc (.cells #[.int .i64 x] T)) w.heap.size T x := by
  unfold B1
  show (w.heap.push _)[w.heap.size]? = _
  simp
theorem B1.alloc {W : World} {b : Nat} {T : TypeId} {x : Int} (h : B1 W b T x) (o : Obj) : B1 (W.alloc o) b T x := h.next ((Below.refl _ _).alloc (Nat.le_refl _) _)
theorem B1.set {W : World} {b : Nat} {T : TypeId} {x : Int} (h : B1 W b T x) (x' : Int) : B1 (W.setCell ⟨b, 0, none⟩ (.int .i64 x')) b T x' := by
  unfold B1 at h ⊢
  simp [World.setCell, Array.getElem?_modify, h]
theorem B1.far {W : World} {b c : Nat} {T : TypeId} {x : Int} (h : B1 W b T x) (hc : b ≠ c) (o : Nat) (v : Value) : B1 (W.setCell ⟨c, o, none⟩ v) b T x := by
  unfold B1 at h ⊢
  rw [Below.heap_setCell _ _ _ _ hc]
  exact h
/-- Two such blocks that a function made at its beginning. -/
def Two1 (w W : World) (T T' : TypeId) (a x : Int) : Prop := Below w.heap.size w W ∧ B1 W w.heap.size T a ∧ B1 W (w.heap.size + 1) T' x
theorem Two1.next {w W W' : World} {T T' : TypeId} {a x : Int} (h : Two1 w W T T' a x) (hb : Below W.heap.size W W') : Two1 w W' T T' a x :=
  ⟨h.1.trans (hb.mono h.1.size), h.2.1.next hb, h.2.2.next hb⟩
theorem Two1.start (w : World) (T T' : TypeId) (a x : Int) : Two1 w ((w.alloc (.cells #[.int .i64 a] T)).alloc (.cells #[.int .i64 x] T')) T T' a x :=
  ⟨((Below.refl _ _).alloc (Nat.le_refl _) _).alloc (by simp) _, (B1.start w T a).alloc _, (by have := B1.start (w.alloc (.cells #[.int .i64 a] T)) T' x; simpa using this)⟩
theorem Two1.out {w W : World} {T T' : TypeId} {a x : Int} (h : Two1 w W T T' a x) (u : Value) : Below w.heap.size w (W.setCell ⟨w.heap.size + 1, 0, none⟩ u) :=
  h.1.setCell (Nat.le_succ _) _

/-- What is wrong with a meter, a time and a rate. -/
def chE (r t x : Int) : Int := if metE r = 0 then (if timeE t = 0 then ratE x else timeE t) else 1
theorem timeE_three (t : Int) : timeE t = 0 ∨ timeE t = 10 ∨ timeE t = 21 := by unfold timeE; split; · simp
                                                                                split <;> simp
theorem timeE_in {t : Int} (h : timeE t = 0) : 0 ≤ t ∧ t < 1099511627776 := by
  by_cases hh : t < 0 ∨ 1099511627776 ≤ t
  · exact absurd h (timeE_ne hh)
  · omega
theorem chE_may {r t x : Int} (h : chE r t x = 0) : (0 ≤ r ∧ r < 1048576) ∧ (0 ≤ t ∧ t < 1099511627776) ∧ 0 ≤ x ∧ x ≤ 1048576 := by
  unfold chE at h
  rcases metE_two r with hm | hm
  · rw [if_pos hm] at h
    by_cases ht : timeE t = 0
    · rw [if_pos ht] at h
      exact ⟨metE_may hm, timeE_in ht, ratE_may h⟩
    · rw [if_neg ht] at h
      exact absurd h ht
  · rw [if_neg (by omega)] at h
    cases h
theorem chE_ok {r t x : Int} (r0 : 0 ≤ r) (r1 : r < 1048576) (t0 : 0 ≤ t) (t1 : t < 1099511627776) (x0 : 0 ≤ x) (x1 : x ≤ 1048576) : chE r t x = 0 := by
  unfold chE
  rw [if_pos (metE_ok r0 r1), if_pos (timeE_ok t0 t1)]
  exact ratE_ok x0 x1
/-- What is charged, and what is left over. -/
def chN (r t x : Int) : Int := if chE r t x = 0 then (t * x + r) / 1048576 else 0
def chR (r t x : Int) : Int := if chE r t x = 0 then (t * x + r) % 1048576 else 0

theorem gcharge_ok (r t x : Int) (h : chE r t x = 0) (w : World) :
    Calls Try.prog 15 #[.agg #[.int .i64 r], .int .i64 t, .int .i64 x] w fun e w' => e = .returned (.tuple #[.int .i64 ((t * x + r) / 1048576), .agg #[.int .i64 ((t * x + r) % 1048576)], .int .i64 0]) ∧ Below w.heap.size w w' := by
  obtain ⟨⟨r0, r1⟩, ⟨t0, t1⟩, x0, x1⟩ := chE_may h
  have c1 := fun W => gmet_any r W
  rw [metE_ok r0 r1] at c1
  have C1 := Lib.hid c1
  have c2 := fun W => time_any t W
  rw [timeE_ok t0 t1] at c2
  have C2 := Lib.hid c2
  have c3 := fun W => grat_any x W
  rw [ratE_ok x0 x1] at c3
  have C3 := Lib.hid c3
  clear c1 c2 c3 h
  have m0 : 0 ≤ t * x := Int.mul_nonneg t0 x0
  have m1 : t * x ≤ 1099511627775 * 1048576 := Int.mul_le_mul (by omega) x1 x0 (by omega)
  have ew : wrap64 (wrap64 (t * x) + r) = t * x + r := by rw [wrap_in (x := t * x) (by omega) (by omega), wrap_in (by omega) (by omega)]
  have EQ := Lib.hid (show wrap64 ((wrap64 (wrap64 (t * x) + r)).tdiv 1048576) = (t * x + r) / 1048576 ∧ (wrap64 (wrap64 (t * x) + r)).tmod 1048576 = (t * x + r) % 1048576 from by
    rw [ew, Int.tdiv_eq_ediv_of_nonneg (by omega), wrap_in (by omega) (by omega)]
    exact ⟨rfl, Int.tmod_eq_emod_of_nonneg (by omega)⟩)
  clear ew m0 m1
  go_enter Try.func15, Try.ntmps15
  go_wp2_with fail
  refine (C1.out _).mono ?_
  rintro e w1 ⟨rfl, b1⟩
  have H1 := Lib.hid ((Two1.start w 34 34 r 0).next b1)
  have r0' := H1.out.2.2.cell
  have f0' := H1.out.2.2.thaw
  have p0 := H1.out.2.1.cell
  go_wp2_with fail
  refine (C2.out _).mono ?_
  rintro e w2 ⟨rfl, rfl⟩
  go_wp2_with fail
  refine (C3.out _).mono ?_
  rintro e w2 ⟨rfl, rfl⟩
  go_wp2
  exact bodyPost_ret (v := .tuple #[.int .i64 ((t * x + r) / 1048576), .agg #[.int .i64 ((t * x + r) % 1048576)], .int .i64 0]) (by simp [results, Try.results15, go_sem, r0']; exact EQ.out) rfl ⟨rfl, H1.out.out _⟩

theorem gcharge_bad (r t x : Int) (h : chE r t x ≠ 0) (w : World) :
    Calls Try.prog 15 #[.agg #[.int .i64 r], .int .i64 t, .int .i64 x] w fun e w' => e = .returned (.tuple #[.int .i64 0, .agg #[.int .i64 0], .int .i64 (chE r t x)]) ∧ Below w.heap.size w w' := by
  have c1 := fun W => gmet_any r W
  have c2 := fun W => time_any t W
  have c3 := fun W => grat_any x W
  rcases metE_two r with hm | hm
  · rw [hm] at c1
    have C1 := Lib.hid c1
    by_cases ht : timeE t = 0
    · have e : chE r t x = ratE x := by unfold chE; rw [if_pos hm, if_pos ht]
      rw [e] at h ⊢
      rw [ht] at c2
      have C2 := Lib.hid c2
      have C3 := Lib.hid c3
      have h' : (ratE x != 0) = true := by simpa using h
      clear c1 c2 c3 h e hm ht
      generalize ratE x = y at *
      go_enter Try.func15, Try.ntmps15
      go_wp2_with fail
      refine (C1.out _).mono ?_
      rintro e w1 ⟨rfl, b1⟩
      have H1 := Lib.hid ((Two1.start w 34 34 r 0).next b1)
      have r0' := H1.out.2.2.cell
      have f0' := H1.out.2.2.thaw
      have p0 := H1.out.2.1.cell
      go_wp2_with fail
      refine (C2.out _).mono ?_
      rintro e w2 ⟨rfl, rfl⟩
      go_wp2_with fail
      refine (C3.out _).mono ?_
      rintro e w2 ⟨rfl, rfl⟩
      go_wp2
      exact bodyPost_ret (v := .tuple #[.int .i64 0, .agg #[.int .i64 0], .int .i64 y]) (by simp [results, Try.results15, go_sem, r0']) rfl ⟨rfl, H1.out.out _⟩
    · have e : chE r t x = timeE t := by unfold chE; rw [if_pos hm, if_neg ht]
      rw [e] at h ⊢
      have C2 := Lib.hid c2
      have h' : (timeE t != 0) = true := by simpa using h
      clear c1 c2 c3 h e hm ht
      generalize timeE t = y at *
      go_enter Try.func15, Try.ntmps15
      go_wp2_with fail
      refine (C1.out _).mono ?_
      rintro e w1 ⟨rfl, b1⟩
      have H1 := Lib.hid ((Two1.start w 34 34 r 0).next b1)
      have r0' := H1.out.2.2.cell
      have f0' := H1.out.2.2.thaw
      go_wp2_with fail
      refine (C2.out _).mono ?_
      rintro e w2 ⟨rfl, rfl⟩
      go_wp2
      exact bodyPost_ret (v := .tuple #[.int .i64 0, .agg #[.int .i64 0], .int .i64 y]) (by simp [results, Try.results15, go_sem, r0']) rfl ⟨rfl, H1.out.out _⟩
  · have e : chE r t x = 1 := by unfold chE; rw [if_neg (by omega)]
    rw [e]
    rw [hm] at c1
    have C1 := Lib.hid c1
    clear c1 c2 c3 h e hm
    go_enter Try.func15, Try.ntmps15
    go_wp2_with fail
    refine (C1.out _).mono ?_
    rintro e w1 ⟨rfl, b1⟩
    have H1 := Lib.hid ((Two1.start w 34 34 r 0).next b1)
    have r0' := H1.out.2.2.cell
    have f0' := H1.out.2.2.thaw
    go_wp2
    exact bodyPost_ret (v := .tuple #[.int .i64 0, .agg #[.int .i64 0], .int .i64 1]) (by simp [results, Try.results15, go_sem, r0']) rfl ⟨rfl, H1.out.out _⟩

/-- A meter's Charge, for every three ints. -/
theorem gcharge_any (r t x : Int) (w : World) :
    Calls Try.prog 15 #[.agg #[.int .i64 r], .int .i64 t, .int .i64 x] w fun e w' => e = .returned (.tuple #[.int .i64 (chN r t x), .agg #[.int .i64 (chR r t x)], .int .i64 (chE r t x)]) ∧ Below w.heap.size w w' := by
  unfold chN chR
  by_cases h : chE r t x = 0
  · rw [if_pos h, if_pos h, h]
    exact gcharge_ok r t x h w
  · rw [if_neg h, if_neg h]
    exact gcharge_bad r t x h w

/-- What Until answers. -/
def unR (r l x : Int) : Int × Int :=
  if metE r = 0 then (if ratE x = 0 then (if l < 0 ∨ 1073741824 < l then (0, 10) else if l = 0 then (0, 0) else
    if (divR (l * 1048576 - r) 1 x true).2 = 0 then (if timeE (divR (l * 1048576 - r) 1 x true).1 = 0 then ((divR (l * 1048576 - r) 1 x true).1, 0) else (0, timeE (divR (l * 1048576 - r) 1 x true).1))
    else (0, (divR (l * 1048576 - r) 1 x true).2)) else (0, 10)) else (0, 1)

theorem guntil_any (r l x : Int) (w : World) :
    Calls Try.prog 18 #[.agg #[.int .i64 r], .int .i64 l, .int .i64 x] w fun e w' => e = .returned (.tuple #[.int .i64 (unR r l x).1, .int .i64 (unR r l x).2]) ∧ Below w.heap.size w w' := by
  have c1 := fun W => gmet_any r W
  have c2 := fun W => grat_any x W
  have S0 := Lib.hid (Arr1.start w r 34)
  rcases metE_two r with hm | hm
  · rw [hm] at c1
    have C1 := Lib.hid c1
    obtain ⟨r0, r1⟩ := metE_may hm
    rcases ratE_two x with hx | hx
    · rw [hx] at c2
      have C2 := Lib.hid c2
      obtain ⟨x0, x1⟩ := ratE_may hx
      by_cases l0 : l < 0
      · have e : unR r l x = (0, 10) := by unfold unR; rw [if_pos hm, if_pos hx, if_pos (.inl l0)]
        rw [e]
        have l0' : decide (l < 0) = true := by simpa using l0
        clear c1 c2 e hm hx
        go_enter Try.func18, Try.ntmps18
        go_wp2_with fail
        refine (C1.out _).mono ?_
        rintro e w1 ⟨rfl, b1⟩
        have H1 := Lib.hid (S0.out.next b1)
        go_wp2_with fail
        refine (C2.out _).mono ?_
        rintro e w2 ⟨rfl, rfl⟩
        go_wp2
        go_ret2
        exact ⟨rfl, H1.out.2.1⟩
      have l0' : decide (l < 0) = false := by simpa using l0
      by_cases l1 : 1073741824 < l
      · have e : unR r l x = (0, 10) := by unfold unR; rw [if_pos hm, if_pos hx, if_pos (.inr l1)]
        rw [e]
        have l1' : decide (1073741824 < l) = true := by simpa using l1
        clear c1 c2 e hm hx
        go_enter Try.func18, Try.ntmps18
        go_wp2_with fail
        refine (C1.out _).mono ?_
        rintro e w1 ⟨rfl, b1⟩
        have H1 := Lib.hid (S0.out.next b1)
        go_wp2_with fail
        refine (C2.out _).mono ?_
        rintro e w2 ⟨rfl, rfl⟩
        go_wp2
        go_ret2
        exact ⟨rfl, H1.out.2.1⟩
      have l1' : decide (1073741824 < l) = false := by simpa using l1
      by_cases lz : l = 0
      · have e : unR r l x = (0, 0) := by unfold unR; rw [if_pos hm, if_pos hx, if_neg (by omega), if_pos lz]
        rw [e]
        have lz' : (l == 0) = true := by simpa using lz
        clear c1 c2 e hm hx
        subst lz
        go_enter Try.func18, Try.ntmps18
        go_wp2_with fail
        refine (C1.out _).mono ?_
        rintro e w1 ⟨rfl, b1⟩
        have H1 := Lib.hid (S0.out.next b1)
        go_wp2_with fail
        refine (C2.out _).mono ?_
        rintro e w2 ⟨rfl, rfl⟩
        go_wp2
        go_ret2
        exact ⟨rfl, H1.out.2.1⟩
      have lz' : (l == 0) = false := by simpa using lz
      have e : unR r l x = if (divR (l * 1048576 - r) 1 x true).2 = 0 then (if timeE (divR (l * 1048576 - r) 1 x true).1 = 0 then ((divR (l * 1048576 - r) 1 x true).1, 0) else (0, timeE (divR (l * 1048576 - r) 1 x true).1))
        else (0, (divR (l * 1048576 - r) 1 x true).2) := by unfold unR; rw [if_pos hm, if_pos hx, if_neg (by omega), if_neg lz]
      rw [e]
      have c3 := fun W => div_any (l * 1048576 - r) 1 x true ⟨by omega, by omega⟩ ⟨by decide, by decide⟩ ⟨by omega, by omega⟩ W
      have c4 := fun t W => time_any t W
      clear c1 c2 e hm hx
      generalize divR (l * 1048576 - r) 1 x true = D at *
      obtain ⟨n, d⟩ := D
      by_cases hd : d = 0
      · subst hd
        have C3 := Lib.hid c3
        have c4 := fun W => time_any n W
        by_cases ht : timeE n = 0
        · rw [if_pos rfl, if_pos ht]
          rw [ht] at c4
          have C4 := Lib.hid c4
          clear c3 c4 ht
          go_enter Try.func18, Try.ntmps18
          go_wp2_with fail
          refine (C1.out _).mono ?_
          rintro e w1 ⟨rfl, b1⟩
          have H1 := Lib.hid (S0.out.next b1)
          obtain ⟨_, _, p0⟩ := H1.out
          go_wp2_with fail
          refine (C2.out _).mono ?_
          rintro e w2 ⟨rfl, rfl⟩
          go_wp2_with fail
          refine (C3.out _).mono ?_
          rintro e w2 ⟨rfl, b2⟩
          have H2 := Lib.hid (H1.out.next b2)
          go_wp2_with fail
          refine (C4.out _).mono ?_
          rintro e w3 ⟨rfl, rfl⟩
          go_wp2
          go_ret2
          exact ⟨rfl, H2.out.2.1⟩
        · rw [if_pos rfl, if_neg ht]
          have ht' : (timeE n != 0) = true := by simpa using ht
          have C4 := Lib.hid c4
          clear c3 c4 ht
          generalize timeE n = y at *
          go_enter Try.func18, Try.ntmps18
          go_wp2_with fail
          refine (C1.out _).mono ?_
          rintro e w1 ⟨rfl, b1⟩
          have H1 := Lib.hid (S0.out.next b1)
          obtain ⟨_, _, p0⟩ := H1.out
          go_wp2_with fail
          refine (C2.out _).mono ?_
          rintro e w2 ⟨rfl, rfl⟩
          go_wp2_with fail
          refine (C3.out _).mono ?_
          rintro e w2 ⟨rfl, b2⟩
          have H2 := Lib.hid (H1.out.next b2)
          go_wp2_with fail
          refine (C4.out _).mono ?_
          rintro e w3 ⟨rfl, rfl⟩
          go_wp2
          go_ret2
          exact ⟨rfl, H2.out.2.1⟩
      · rw [if_neg hd]
        have hd' : (d != 0) = true := by simpa using hd
        have C3 := Lib.hid c3
        clear c3 c4 hd
        go_enter Try.func18, Try.ntmps18
        go_wp2_with fail
        refine (C1.out _).mono ?_
        rintro e w1 ⟨rfl, b1⟩
        have H1 := Lib.hid (S0.out.next b1)
        obtain ⟨_, _, p0⟩ := H1.out
        go_wp2_with fail
        refine (C2.out _).mono ?_
        rintro e w2 ⟨rfl, rfl⟩
        go_wp2_with fail
        refine (C3.out _).mono ?_
        rintro e w2 ⟨rfl, b2⟩
        have H2 := Lib.hid (H1.out.next b2)
        go_wp2
        go_ret2
        exact ⟨rfl, H2.out.2.1⟩
    · have e : unR r l x = (0, 10) := by unfold unR; rw [if_pos hm, if_neg (by omega)]
      rw [e]
      rw [hx] at c2
      have C2 := Lib.hid c2
      clear c1 c2 e hm hx
      go_enter Try.func18, Try.ntmps18
      go_wp2_with fail
      refine (C1.out _).mono ?_
      rintro e w1 ⟨rfl, b1⟩
      have H1 := Lib.hid (S0.out.next b1)
      go_wp2_with fail
      refine (C2.out _).mono ?_
      rintro e w2 ⟨rfl, rfl⟩
      go_wp2
      go_ret2
      exact ⟨rfl, H1.out.2.1⟩
  · have e : unR r l x = (0, 1) := by unfold unR; rw [if_neg (by omega)]
    rw [e]
    rw [hm] at c1
    have C1 := Lib.hid c1
    clear c1 c2 e hm
    go_enter Try.func18, Try.ntmps18
    go_wp2_with fail
    refine (C1.out _).mono ?_
    rintro e w1 ⟨rfl, b1⟩
    have H1 := Lib.hid (S0.out.next b1)
    go_wp2
    go_ret2
    exact ⟨rfl, H1.out.2.1⟩
end Go.Proofs.Ythncchngphlcfaa
