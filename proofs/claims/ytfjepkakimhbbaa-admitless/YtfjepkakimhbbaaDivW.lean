/-
  The walk of num.Div, for all ints and both ways of rounding.
-/
import Derived.Test.YtfjepkakimhbbaaMul
import Derived.Test.YtfjepkakimhbbaaDiv64
import Derived.Deep.RegionHeld3
import Derived.Laws.StructEq
namespace Go.Proofs.Ytfjepkakimhbbaa
open Go.RowKit

/-- num.times, with the block that it makes. -/
theorem times_new (x y : Nat) (hx : x < 18446744073709551616) (hy : y < 18446744073709551616) (w : World) :
    Calls Try.prog 47 #[.int .u64 x, .int .u64 y] w fun e w' => e = .returned (.agg #[.int .u64 (hiW (x * y)), .int .u64 (loW (x * y))]) ∧ ∃ c, w' = w.alloc (.cells c 75) := by
  have c := fun W => mul64_any x y hx hy W
  have C := Lib.hid c
  clear c hx hy
  generalize x * y = p at *
  go_enter Try.func47, Try.ntmps47
  go_wp2_with (go_at_call 50; refine (C.out _).mono ?_; rintro e w' ⟨rfl, rfl⟩)
  exact bodyPost_ret (v := .agg #[.int .u64 (hiW p), .int .u64 (loW p)]) (by simp [results, Try.results47, go_sem]) rfl ⟨rfl, _, rfl⟩

theorem below_drewN {B : Nat} {a w : World} (h : Below B a w) (n : Nat) : Below B a (w.drewN n) := ⟨h.os, h.tape, h.output, h.size, h.block⟩

theorem div_neg1 (a b c : Int) (up : Bool) (hab : a < 0 ∨ b < 0) (w : World) :
    Calls Try.prog 44 #[.int .i64 a, .int .i64 b, .int .i64 c, .bool up] w fun e w' => e = .returned (.tuple #[.int .i64 0, .int .i64 10]) ∧ Below w.heap.size w w' := by
  have c1 := Lib.hid (fun W => product_neg a b hab W)
  clear hab
  go_enter Try.func44, Try.ntmps44
  go_wp2_with fail
  refine (c1.out _).mono ?_
  rintro e w1 ⟨rfl, hb1⟩
  go_wp2
  go_ret2
  exact ⟨rfl, hb1.trans (((Below.refl _ _).alloc (Nat.le_refl _) _).mono hb1.size)⟩

theorem div_neg2 (a b : Nat) (c : Int) (up : Bool) (ha : a ≤ 9223372036854775807) (hb : b ≤ 9223372036854775807) (hc : c < 0) (w : World) :
    Calls Try.prog 44 #[.int .i64 a, .int .i64 b, .int .i64 c, .bool up] w fun e w' => e = .returned (.tuple #[.int .i64 0, .int .i64 10]) ∧ Below w.heap.size w w' := by
  have c1 := Lib.hid (fun W => product_ok a b ha hb W)
  clear ha hb
  generalize a * b = p at *
  go_enter Try.func44, Try.ntmps44
  go_wp2_with fail
  refine (c1.out _).mono ?_
  rintro e w1 ⟨rfl, hb1⟩
  go_wp2
  go_ret2
  exact ⟨rfl, hb1.trans (((Below.refl _ _).alloc (Nat.le_refl _) _).mono hb1.size)⟩

theorem div_zero (a b : Nat) (up : Bool) (ha : a ≤ 9223372036854775807) (hb : b ≤ 9223372036854775807) (w : World) :
    Calls Try.prog 44 #[.int .i64 a, .int .i64 b, .int .i64 0, .bool up] w fun e w' => e = .returned (.tuple #[.int .i64 0, .int .i64 12]) ∧ Below w.heap.size w w' := by
  have c1 := Lib.hid (fun W => product_ok a b ha hb W)
  clear ha hb
  generalize a * b = p at *
  go_enter Try.func44, Try.ntmps44
  go_wp2_with fail
  refine (c1.out _).mono ?_
  rintro e w1 ⟨rfl, hb1⟩
  go_wp2
  go_ret2
  exact ⟨rfl, hb1.trans (((Below.refl _ _).alloc (Nat.le_refl _) _).mono hb1.size)⟩

/-- math/bits.Div64, whatever is in the high half. -/
theorem div64_any (hi lo y : Nat) (hlo : lo < 18446744073709551616) (hy : y < 18446744073709551616) (hh : hi < y) (w : World) :
    Calls Try.prog 46 #[.int .u64 hi, .int .u64 lo, .int .u64 y] w fun e w' => (∃ r : Int, e = .returned (.tuple #[.int .u64 (quoW hi lo y : Int), .int .u64 r])) ∧ ∃ n, w' = w.drewN n := by
  by_cases h0 : hi = 0
  · subst h0
    have e : quoW 0 lo y = lo / y := by unfold quoW; rw [Nat.zero_mul, Nat.zero_add]
    rw [e]
    exact div64_small lo y hlo hy hh w
  · exact div64_great hi lo y hlo hy hh h0 w

theorem quoW_hilo (p y : Nat) : quoW (p / 18446744073709551616) (p % 18446744073709551616) y = p / y := by
  unfold quoW
  rw [Nat.div_add_mod']

/-- The quotient wants more than 64 bits. -/
theorem div_over1 (a b c : Nat) (up : Bool) (ha : a ≤ 9223372036854775807) (hb : b ≤ 9223372036854775807) (hc : c ≤ 9223372036854775807) (hc0 : 0 < c) (ho : (c : Int) ≤ hiW (a * b)) (w : World) :
    Calls Try.prog 44 #[.int .i64 a, .int .i64 b, .int .i64 c, .bool up] w fun e w' => e = .returned (.tuple #[.int .i64 0, .int .i64 11]) ∧ Below w.heap.size w w' := by
  have c1 := Lib.hid (fun W => product_ok a b ha hb W)
  have hcz : ((c : Int) == 0) = false := by simp; omega
  clear ha hb
  generalize a * b = p at *
  have ho' : decide ((c : Int) ≤ hiW p) = true := by simpa using ho
  go_enter Try.func44, Try.ntmps44
  go_wp2_with fail
  refine (c1.out _).mono ?_
  rintro e w1 ⟨rfl, hb1⟩
  go_wp2
  go_ret2
  exact ⟨rfl, hb1.trans (((Below.refl _ _).alloc (Nat.le_refl _) _).mono hb1.size)⟩

/-- It has 64 bits, but is no int. -/
theorem div_over2 (a b c : Nat) (up : Bool) (ha : a ≤ 9223372036854775807) (hb : b ≤ 9223372036854775807) (hc : c ≤ 9223372036854775807) (hc0 : 0 < c) (h : a * b / 18446744073709551616 < c) (ho : 9223372036854775807 < a * b / c) (w : World) :
    Calls Try.prog 44 #[.int .i64 a, .int .i64 b, .int .i64 c, .bool up] w fun e w' => e = .returned (.tuple #[.int .i64 0, .int .i64 11]) ∧ Below w.heap.size w w' := by
  have c1 := Lib.hid (fun W => product_ok a b ha hb W)
  have c2 := Lib.hid (fun W => div64_any (a * b / 18446744073709551616) (a * b % 18446744073709551616) c (Nat.mod_lt _ (by omega)) (by omega) h W)
  rw [quoW_hilo] at c2
  have hcz : ((c : Int) == 0) = false := by simp; omega
  have ho' : decide ((c : Int) ≤ hiW (a * b)) = false := by unfold hiW; simp; omega
  have hd' : decide ((9223372036854775807 : Int) < ((a * b / c : Nat) : Int)) = true := by rw [decide_eq_true_eq]; omega
  clear ha hb h ho
  generalize a * b / c = d at *
  generalize a * b = p at *
  go_enter Try.func44, Try.ntmps44
  go_wp2_with fail
  refine (c1.out _).mono ?_
  rintro e w1 ⟨rfl, hb1⟩
  go_wp2_with fail
  refine (c2.out _).mono ?_
  rintro e w2 ⟨⟨r, rfl⟩, n, rfl⟩
  go_wp2
  go_ret2
  exact ⟨rfl, below_drewN (hb1.trans (((Below.refl _ _).alloc (Nat.le_refl _) _).mono hb1.size)) n⟩

/-- Rounded down. -/
theorem div_down (a b c : Nat) (ha : a ≤ 9223372036854775807) (hb : b ≤ 9223372036854775807) (hc : c ≤ 9223372036854775807) (hc0 : 0 < c) (h : a * b / 18446744073709551616 < c) (ho : a * b / c ≤ 9223372036854775807) (w : World) :
    Calls Try.prog 44 #[.int .i64 a, .int .i64 b, .int .i64 c, .bool false] w fun e w' => e = .returned (.tuple #[.int .i64 ((a * b / c : Nat) : Int), .int .i64 0]) ∧ Below w.heap.size w w' := by
  have c1 := Lib.hid (fun W => product_ok a b ha hb W)
  have c2 := Lib.hid (fun W => div64_any (a * b / 18446744073709551616) (a * b % 18446744073709551616) c (Nat.mod_lt _ (by omega)) (by omega) h W)
  rw [quoW_hilo] at c2
  have hcz : ((c : Int) == 0) = false := by simp; omega
  have ho' : decide ((c : Int) ≤ hiW (a * b)) = false := by unfold hiW; simp; omega
  have hd' : decide ((9223372036854775807 : Int) < ((a * b / c : Nat) : Int)) = false := by rw [decide_eq_false_iff_not]; omega
  clear ha hb h
  generalize a * b / c = d at *
  generalize a * b = p at *
  go_enter Try.func44, Try.ntmps44
  go_wp2_with fail
  refine (c1.out _).mono ?_
  rintro e w1 ⟨rfl, hb1⟩
  go_wp2_with fail
  refine (c2.out _).mono ?_
  rintro e w2 ⟨⟨r, rfl⟩, n, rfl⟩
  go_wp2_with fail
  go_quiet (fail)
  go_wp2
  go_ret2
  exact ⟨rfl, below_drewN (hb1.trans (((Below.refl _ _).alloc (Nat.le_refl _) _).mono hb1.size)) _⟩

/-- Rounded up, where nothing is left over. -/
theorem div_exact (a b c : Nat) (ha : a ≤ 9223372036854775807) (hb : b ≤ 9223372036854775807) (hc : c ≤ 9223372036854775807) (hc0 : 0 < c) (h : a * b / 18446744073709551616 < c) (ho : a * b / c ≤ 9223372036854775807) (he : a * b / c * c = a * b) (w : World) :
    Calls Try.prog 44 #[.int .i64 a, .int .i64 b, .int .i64 c, .bool true] w fun e w' => e = .returned (.tuple #[.int .i64 ((a * b / c : Nat) : Int), .int .i64 0]) ∧ Below w.heap.size w w' := by
  have c1 := Lib.hid (fun W => product_ok a b ha hb W)
  have c2 := Lib.hid (fun W => div64_any (a * b / 18446744073709551616) (a * b % 18446744073709551616) c (Nat.mod_lt _ (by omega)) (by omega) h W)
  rw [quoW_hilo] at c2
  have c3 := Lib.hid (fun W => times_new (a * b / c) c (by omega) (by omega) W)
  rw [he] at c3
  have hcz : ((c : Int) == 0) = false := by simp; omega
  have ho' : decide ((c : Int) ≤ hiW (a * b)) = false := by unfold hiW; simp; omega
  have hd' : decide ((9223372036854775807 : Int) < ((a * b / c : Nat) : Int)) = false := by rw [decide_eq_false_iff_not]; omega
  clear ha hb h he
  generalize a * b / c = d at *
  generalize a * b = p at *
  go_enter Try.func44, Try.ntmps44
  go_wp2_with fail
  refine (c1.out _).mono ?_
  rintro e w1 ⟨rfl, hb1⟩
  go_wp2_with fail
  refine (c2.out _).mono ?_
  rintro e w2 ⟨⟨r, rfl⟩, n, rfl⟩
  go_wp2_with fail
  go_region_held3 (fun w' => w'.cell? ⟨w1.heap.size, 0, none⟩ = some (.int .u64 (hiW p)) ∧ w'.cell? ⟨w1.heap.size, 1, none⟩ = some (.int .u64 (loW p))) (simp [go_sem, World.cell?_alloc_past])
    ((go_at_call 47; refine (c3.out _).mono ?_; rintro e w' ⟨rfl, o1, rfl⟩))
  go_wp2
  go_ret2
  exact ⟨rfl, (below_drewN (hb1.trans (((Below.refl _ _).alloc (Nat.le_refl _) _).mono hb1.size)) _).alloc (Nat.le_trans hb1.size (by simp)) _⟩

/-- Rounded up, where something is left over. -/
theorem div_more (a b c : Nat) (ha : a ≤ 9223372036854775807) (hb : b ≤ 9223372036854775807) (hc : c ≤ 9223372036854775807) (hc0 : 0 < c) (h : a * b / 18446744073709551616 < c) (ho : a * b / c ≤ 9223372036854775807) (he : a * b / c * c ≠ a * b) (w : World) :
    Calls Try.prog 44 #[.int .i64 a, .int .i64 b, .int .i64 c, .bool true] w fun e w' => e = .returned (.tuple #[.int .i64 (sumR 0 [((a * b / c : Nat) : Int), 1]).1, .int .i64 (sumR 0 [((a * b / c : Nat) : Int), 1]).2]) ∧ Below w.heap.size w w' := by
  have c1 := Lib.hid (fun W => product_ok a b ha hb W)
  have c2 := Lib.hid (fun W => div64_any (a * b / 18446744073709551616) (a * b % 18446744073709551616) c (Nat.mod_lt _ (by omega)) (by omega) h W)
  rw [quoW_hilo] at c2
  have c3 := Lib.hid (fun W => times_new (a * b / c) c (by omega) (by omega) W)
  have hcz : ((c : Int) == 0) = false := by simp; omega
  have ho' : decide ((c : Int) ≤ hiW (a * b)) = false := by unfold hiW; simp; omega
  have hd' : decide ((9223372036854775807 : Int) < ((a * b / c : Nat) : Int)) = false := by rw [decide_eq_false_iff_not]; omega
  clear ha hb h
  generalize a * b / c = d at *
  generalize a * b = p at *
  generalize d * c = q at *
  have hcase : (hiW q == hiW p) = false ∨ ((hiW q == hiW p) = true ∧ (loW q == loW p) = false) := by
    unfold hiW loW
    rw [beq_eq_false_iff_ne, beq_eq_false_iff_ne, beq_iff_eq]
    omega
  have c4 : Hid (∀ (g : Nat) (cap : Nat) (W : World), (g < W.heap.size ∧ W.cell? ⟨g, 0, none⟩ = some (.int .i64 d) ∧ W.cell? ⟨g, 1, none⟩ = some (.int .i64 1)) → Calls Try.prog 48 #[.slice (some ⟨g, 0, none⟩) 2 cap] W fun e w' => e = .returned (.tuple #[.int .i64 (sumR 0 [(d : Int), 1]).1, .int .i64 (sumR 0 [(d : Int), 1]).2]) ∧ W = w') := by
    intro g cap W hW
    refine sum_any (some ⟨g, 0, none⟩) [(d : Int), 1] cap W (.inr ⟨g, 0, rfl, hW.1, ?_⟩) ?_ (by simp)
    · intro i hi
      match i, hi with
      | 0, _ => exact hW.2.1
      | 1, _ => exact hW.2.2
    · intro z hz
      simp at hz
      rcases hz with rfl | rfl
      · exact ⟨by omega, by omega⟩
      · exact ⟨by decide, by decide⟩
  clear he
  generalize sumR 0 [(d : Int), 1] = R at *
  rcases hcase with h1 | ⟨h1, h2⟩
  · go_enter Try.func44, Try.ntmps44
    go_wp2_with fail
    refine (c1.out _).mono ?_
    rintro e w1 ⟨rfl, hb1⟩
    go_wp2_with fail
    refine (c2.out _).mono ?_
    rintro e w2 ⟨⟨r, rfl⟩, n, rfl⟩
    go_wp2_with fail
    go_region_held3 (fun w' => w'.cell? ⟨w1.heap.size, 0, none⟩ = some (.int .u64 (hiW p)) ∧ w'.cell? ⟨w1.heap.size, 1, none⟩ = some (.int .u64 (loW p))) (simp [go_sem, World.cell?_alloc_past])
      ((go_at_call 47; refine (c3.out _).mono ?_; rintro e w' ⟨rfl, o1, rfl⟩))
    go_wp2_with fail
    refine (c4.out _ _ _ ?hs).mono ?_
    case hs => exact ⟨by simp, by simp [go_sem], by simp [go_sem]⟩
    rintro e w3 ⟨rfl, rfl⟩
    go_wp2
    go_ret2
    exact ⟨rfl, ((below_drewN (hb1.trans (((Below.refl _ _).alloc (Nat.le_refl _) _).mono hb1.size)) _).alloc (Nat.le_trans hb1.size (by simp)) _).alloc (Nat.le_trans hb1.size (by simp; omega)) _⟩
  · go_enter Try.func44, Try.ntmps44
    go_wp2_with fail
    refine (c1.out _).mono ?_
    rintro e w1 ⟨rfl, hb1⟩
    go_wp2_with fail
    refine (c2.out _).mono ?_
    rintro e w2 ⟨⟨r, rfl⟩, n, rfl⟩
    go_wp2_with fail
    go_region_held3 (fun w' => w'.cell? ⟨w1.heap.size, 0, none⟩ = some (.int .u64 (hiW p)) ∧ w'.cell? ⟨w1.heap.size, 1, none⟩ = some (.int .u64 (loW p))) (simp [go_sem, World.cell?_alloc_past])
      ((go_at_call 47; refine (c3.out _).mono ?_; rintro e w' ⟨rfl, o1, rfl⟩))
    go_wp2_with fail
    refine (c4.out _ _ _ ?hs).mono ?_
    case hs => exact ⟨by simp, by simp [go_sem], by simp [go_sem]⟩
    rintro e w3 ⟨rfl, rfl⟩
    go_wp2
    go_ret2
    exact ⟨rfl, ((below_drewN (hb1.trans (((Below.refl _ _).alloc (Nat.le_refl _) _).mono hb1.size)) _).alloc (Nat.le_trans hb1.size (by simp)) _).alloc (Nat.le_trans hb1.size (by simp; omega)) _⟩

end Go.Proofs.Ytfjepkakimhbbaa
