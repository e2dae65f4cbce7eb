/-
  The walks of num's wide numbers: math/bits.Mul64 and Add64, num.times, num.magnitude, num.Wide.Less, num.Wide.Add, num.Product.
-/
import Derived.Test.YtfjepkakimhbbaaProg
import Derived.WalkKit
import Derived.WalkSpells
import Derived.WalkLawsBesides
import Derived.Lib.Hide
import Derived.Lib.Mul64
import Derived.Laws.Bits64b
import Derived.Laws.Externs
import Derived.Below
namespace Go.Proofs.Ytfjepkakimhbbaa
open Go.RowKit

theorem bcell {B : Nat} {W w1 : World} (hb : Below B W w1) : (∀ b o, b < B → w1.cell? ⟨b, o, none⟩ = W.cell? ⟨b, o, none⟩) ∧ (∀ b o, b < B → w1.frozen? ⟨b, o, none⟩ = W.frozen? ⟨b, o, none⟩) :=
  ⟨fun b o h => hb.cell (p := ⟨b, o, none⟩) h, fun b o h => hb.frozen (p := ⟨b, o, none⟩) h⟩

/-- The high and the low half of a number of 128 bits. -/
def hiW (n : Nat) : Int := ((n / 18446744073709551616 : Nat) : Int)
def loW (n : Nat) : Int := ((n % 18446744073709551616 : Nat) : Int)

namespace M64
/-- The low half of a word, and a word that does not wrap, or does. -/
theorem maskN (a : Nat) (ha : a < 18446744073709551616) : bits .and .u64 (a : Int) 4294967295 = ((a % 4294967296 : Nat) : Int) :=
  (bits_and_u64_nat a 4294967295 ha (by omega)).trans (congrArg Nat.cast (Nat.and_two_pow_sub_one_eq_mod a 32))
theorem wrapM (a : Nat) : IntKind.u64.wrap (a : Int) = ((a % 18446744073709551616 : Nat) : Int) := by
  rw [IntKind.wrap_u64, Int.natCast_emod]
  rfl
theorem wrapN (a : Nat) (ha : a < 18446744073709551616) : IntKind.u64.wrap (a : Int) = (a : Int) := by
  rw [wrapM, Nat.mod_eq_of_lt ha]
end M64

set_option maxHeartbeats 1000000 in
theorem mul64_any (x y : Nat) (hx : x < 18446744073709551616) (hy : y < 18446744073709551616) (w : World) :
    Calls Try.prog 50 #[.int .u64 x, .int .u64 y] w fun e w' => e = .returned (.tuple #[.int .u64 (hiW (x * y)), .int .u64 (loW (x * y))]) ∧ w = w' := by
  obtain ⟨bd, bt, bw, hhi⟩ := Lib.mul64_hi x y hx hy
  have e1 := M64.maskN x hx
  have e2 := M64.maskN y hy
  have e3 : (x : Int) / 4294967296 = ((x / 4294967296 : Nat) : Int) := by omega
  have e4 : (y : Int) / 4294967296 = ((y / 4294967296 : Nat) : Int) := by omega
  have lx1 : x / 4294967296 ≤ 4294967295 := by omega
  have lx0 : x % 4294967296 ≤ 4294967295 := by omega
  have ly1 : y / 4294967296 ≤ 4294967295 := by omega
  have ly0 : y % 4294967296 ≤ 4294967295 := by omega
  have eLo : IntKind.u64.wrap ((x : Int) * (y : Int)) = loW (x * y) := by rw [← Int.natCast_mul]; exact M64.wrapM _
  have hHi : hiW (x * y) = ((x * y / 18446744073709551616 : Nat) : Int) := rfl
  rw [← hhi] at hHi
  have HHi := Lib.hid hHi
  clear hHi hhi
  generalize x / 4294967296 = x1 at *
  generalize x % 4294967296 = x0 at *
  generalize y / 4294967296 = y1 at *
  generalize y % 4294967296 = y0 at *
  generalize loW (x * y) = lo at *
  generalize hiW (x * y) = hi at *
  -- the four products of the halves, none of which wraps
  have b11 := Lib.half_mul_le lx1 ly1
  have b10 := Lib.half_mul_le lx1 ly0
  have b01 := Lib.half_mul_le lx0 ly1
  have m11 : IntKind.u64.wrap ((x1 : Int) * (y1 : Int)) = ((x1 * y1 : Nat) : Int) := by rw [← Int.natCast_mul]; exact M64.wrapN _ (by omega)
  have m10 : IntKind.u64.wrap ((x1 : Int) * (y0 : Int)) = ((x1 * y0 : Nat) : Int) := by rw [← Int.natCast_mul]; exact M64.wrapN _ (by omega)
  have m01 : IntKind.u64.wrap ((x0 : Int) * (y1 : Int)) = ((x0 * y1 : Nat) : Int) := by rw [← Int.natCast_mul]; exact M64.wrapN _ (by omega)
  have m00 : IntKind.u64.wrap ((x0 : Int) * (y0 : Int)) = ((x0 * y0 : Nat) : Int) := by rw [← Int.natCast_mul]; exact M64.wrapN _ bd
  generalize x1 * y1 = p11 at *
  generalize x1 * y0 = p10 at *
  generalize x0 * y1 = p01 at *
  generalize x0 * y0 = p00 at *
  have et : bits BinOp.and IntKind.u64 ((p10 : Int) + (p00 : Int) / 4294967296) 4294967295 = (((p10 + p00 / 4294967296) % 4294967296 : Nat) : Int) := by
    rw [show (p10 : Int) + (p00 : Int) / 4294967296 = ((p10 + p00 / 4294967296 : Nat) : Int) by omega]
    exact M64.maskN _ bt
  have E : Hid (hi = (p11 : Int) + ((p10 : Int) + (p00 : Int) / 4294967296) / 4294967296 + (((p10 + p00 / 4294967296) % 4294967296 : Nat) + (p01 : Int)) / 4294967296) := by
    rw [HHi.out]
    show _ = _
    omega
  have lt : (p10 + p00 / 4294967296) % 4294967296 ≤ 4294967295 := by omega
  generalize (p10 + p00 / 4294967296) % 4294967296 = tl at *
  clear HHi
  go_enter Try.func50, Try.ntmps50
  go_wp2
  go_ret2
  exact ⟨by rw [E.out]; rfl, rfl⟩

/-- num.times: the product of two numbers of 64 bits. -/
theorem times_any (x y : Nat) (hx : x < 18446744073709551616) (hy : y < 18446744073709551616) (w : World) :
    Calls Try.prog 47 #[.int .u64 x, .int .u64 y] w fun e w' => e = .returned (.agg #[.int .u64 (hiW (x * y)), .int .u64 (loW (x * y))]) ∧ Below w.heap.size w w' := by
  have c := fun W => mul64_any x y hx hy W
  have C := Lib.hid c
  clear c hx hy
  generalize x * y = p at *
  go_enter Try.func47, Try.ntmps47
  go_wp2_with (go_at_call 50; refine (C.out _).mono ?_; rintro e w' ⟨rfl, rfl⟩)
  exact bodyPost_ret (v := .agg #[.int .u64 (hiW p), .int .u64 (loW p)]) (by simp [results, Try.results47, go_sem]) rfl ⟨rfl, (Below.refl _ _).alloc (Nat.le_refl _) _⟩

theorem mag_neg (n : Int) (h : -9223372036854775808 ≤ n) (hn : n < 0) : IntKind.u64.wrap (-IntKind.u64.wrap n) = (n.natAbs : Int) := by
  rw [IntKind.wrap_u64, IntKind.wrap_u64]; omega
theorem mag_pos (n : Int) (h : 0 ≤ n) : n = (n.natAbs : Int) := by omega
theorem below_alloc {w w1 : World} {o : Obj} (hb : Below (w.alloc o).heap.size (w.alloc o) w1) : Below w.heap.size w w1 :=
  ((Below.refl _ _).alloc (Nat.le_refl _) o).trans (hb.mono (by simp))

/-- Which of two wide numbers is less. -/
def ltW (ah al bh bl : Int) : Bool := if ah = bh then decide (al < bl) else decide (ah < bh)
theorem ltW_hilo (n m : Nat) : ltW (hiW n) (loW n) (hiW m) (loW m) = decide (n < m) := by
  unfold ltW hiW loW
  by_cases h : ((n / 18446744073709551616 : Nat) : Int) = ((m / 18446744073709551616 : Nat) : Int)
  · rw [if_pos h, decide_eq_decide]; omega
  · rw [if_neg h, decide_eq_decide]; omega

/-- num.Product of two numbers that are not below 0. -/
theorem product_ok (a b : Nat) (ha : a ≤ 9223372036854775807) (hb : b ≤ 9223372036854775807) (w : World) :
    Calls Try.prog 45 #[.int .i64 a, .int .i64 b] w fun e w' => e = .returned (.tuple #[.agg #[.int .u64 (hiW (a * b)), .int .u64 (loW (a * b))], .int .i64 0]) ∧ Below w.heap.size w w' := by
  have c := fun W => times_any a b (by omega) (by omega) W
  have C := Lib.hid c
  clear c
  generalize a * b = p at *
  have h1 : decide ((a : Int) < 0) = false := by simp
  have h2 : decide ((b : Int) < 0) = false := by simp
  go_enter Try.func45, Try.ntmps45
  go_wp2_with fail
  refine (C.out _).mono ?_
  rintro e w1 ⟨rfl, hb1⟩
  obtain ⟨hc, hf⟩ := bcell hb1
  go_wp2
  exact bodyPost_ret (v := .tuple #[.agg #[.int .u64 (hiW p), .int .u64 (loW p)], .int .i64 0]) (by simp [results, Try.results45, go_sem, hc]) rfl
    ⟨rfl, ((below_alloc hb1).setCell (Nat.le_refl _) _).setCell (Nat.le_refl _) _⟩

theorem product_neg (a b : Int) (h : a < 0 ∨ b < 0) (w : World) :
    Calls Try.prog 45 #[.int .i64 a, .int .i64 b] w fun e w' => e = .returned (.tuple #[.agg #[.int .u64 0, .int .u64 0], .int .i64 10]) ∧ Below w.heap.size w w' := by
  by_cases h1 : a < 0
  · have h1' : decide (a < 0) = true := by simpa using h1
    clear h h1
    go_enter Try.func45, Try.ntmps45
    go_wp2
    exact bodyPost_ret (v := .tuple #[.agg #[.int .u64 0, .int .u64 0], .int .i64 10]) (by simp [results, Try.results45, go_sem]) rfl
      ⟨rfl, (Below.refl _ _).alloc (Nat.le_refl _) _⟩
  · have h1' : decide (a < 0) = false := by simpa using h1
    have h2' : decide (b < 0) = true := by simp; omega
    clear h h1
    go_enter Try.func45, Try.ntmps45
    go_wp2
    exact bodyPost_ret (v := .tuple #[.agg #[.int .u64 0, .int .u64 0], .int .i64 10]) (by simp [results, Try.results45, go_sem]) rfl
      ⟨rfl, (Below.refl _ _).alloc (Nat.le_refl _) _⟩

/-- What is carried out of the low halves, and out of the high ones. -/
def lowS (al bl : Int) : Int := (al + bl) % 18446744073709551616
def carS (al bl : Int) : Int := (al + bl) / 18446744073709551616
def higS (ah bh c : Int) : Int := (ah + bh + c) % 18446744073709551616
def outS (ah bh c : Int) : Int := (ah + bh + c) / 18446744073709551616

end Go.Proofs.Ytfjepkakimhbbaa
