/-
  The walks of num.Mul, num.ask and num.Less.
-/
import Derived.Test.YtfjepkakimhbbaaSum
namespace Go.Proofs.Ytfjepkakimhbbaa
open Go.RowKit

/-- What num.Mul answers. -/
def mulR (a b : Int) : Int × Int := if -9223372036854775808 ≤ a * b ∧ a * b ≤ 9223372036854775807 then (a * b, 0) else (0, 11)

theorem natAbs_lt {a : Int} (h0 : -9223372036854775808 ≤ a) (h1 : a ≤ 9223372036854775807) : a.natAbs < 18446744073709551616 := by omega
theorem hiW_small {n : Nat} (h : n < 18446744073709551616) : hiW n = 0 := by unfold hiW; omega
theorem loW_small {n : Nat} (h : n < 18446744073709551616) : loW n = n := by unfold loW; omega

theorem u64_neg_back {p : Nat} (h : p ≤ 9223372036854775808) : wrap64 (IntKind.u64.wrap (-(p : Int))) = -(p : Int) := by
  rw [IntKind.wrap_u64]; unfold wrap64; omega
theorem i64_back {p : Nat} (h : p ≤ 9223372036854775807) : wrap64 (p : Int) = (p : Int) := by
  unfold wrap64; omega

theorem sign_pos {a b : Int} (hn : (!decide (a < 0) == decide (b < 0)) = false) : a * b = ((a.natAbs * b.natAbs : Nat) : Int) := by
  by_cases ha : a < 0 <;> by_cases hb : b < 0 <;> simp [ha, hb] at hn
  · rw [Int.natCast_mul, Int.ofNat_natAbs_of_nonpos (by omega), Int.ofNat_natAbs_of_nonpos (by omega), Int.neg_mul_neg]
  · rw [Int.natCast_mul, Int.natAbs_of_nonneg (by omega), Int.natAbs_of_nonneg (by omega)]
theorem sign_neg {a b : Int} (hn : (!decide (a < 0) == decide (b < 0)) = true) : a * b = -((a.natAbs * b.natAbs : Nat) : Int) := by
  by_cases ha : a < 0 <;> by_cases hb : b < 0 <;> simp [ha, hb] at hn
  · rw [Int.natCast_mul, Int.ofNat_natAbs_of_nonpos (by omega), Int.natAbs_of_nonneg (by omega), Int.neg_mul, Int.neg_neg]
  · rw [Int.natCast_mul, Int.natAbs_of_nonneg (by omega), Int.ofNat_natAbs_of_nonpos (by omega), Int.mul_neg, Int.neg_neg]

theorem ltW_most (m p : Nat) (hm : m < 18446744073709551616) : ltW 0 (m : Int) (hiW p) (loW p) = decide (m < p) := by
  have := ltW_hilo m p
  rw [hiW_small hm, loW_small hm] at this
  exact this

/-! num.ask, handed the method value of a wide number's Less -/
end Go.Proofs.Ytfjepkakimhbbaa
