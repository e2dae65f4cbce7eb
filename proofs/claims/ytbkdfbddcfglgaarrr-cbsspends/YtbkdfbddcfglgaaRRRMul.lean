/-
  The walks of num.Mul, num.ask and num.Less.
-/
import Derived.Test.YtbkdfbddcfglgaaRRRSum
namespace Go.Proofs.YtbkdfbddcfglgaaRRR
open Go.RowKit

/-- What num.Mul answers. -/
def mulR (a b : Int) : Int × Int := if -9223372036854775808 ≤ a * b ∧ a * b ≤ 9223372036854775807 then (a * b, 0) else (0, 11)

theorem natAbs_lt {a : Int} (h0 : -9223372036854775808 ≤ a) (h1 : a ≤ 9223372036854775807) : a.natAbs < 18446744073709551616 := by omega
theorem hiW_small {n : Nat} (h : n < 18446744073709551616) : hiW n = 0 := by unfold hiW; omega
theorem loW_small {n : Nat} (h : n < 18446744073709551616) : loW n = n := by unfold loW; omega

theorem u64_neg_back {p : Nat} (h : p ≤ 9223372036854775808) : wrap64 (IntKind.u64.wrap (-(p : Int))) = -(p : Int) := by
  rw [IntKind.wrap_u64]; unfold wrap64; omega
theorem i64_back {p : Nat} (h : p ≤ 9223372036854775807) : wrap64 (p : Int) = (p : Int) := by
  unfold wrap64; omega

theorem sign_pos {a b : Int} (hn : (!decide (a < 0) == decide (b < 0)) = false) : a * b = ((a.natAbs * b.natAbs : Nat) : Int) := by
  by_cases ha : a < 0 <;> by_cases hb : b < 0 <;> simp [ha, hb] at hn
  · rw [Int.natCast_mul, Int.ofNat_natAbs_of_nonpos (by omega), Int.ofNat_natAbs_of_nonpos (by omega), Int.neg_mul_neg]
  · rw [Int.natCast_mul, Int.natAbs_of_nonneg (by omega), Int.natAbs_of_nonneg (by omega)]
theorem sign_neg {a b : Int} (hn : (!decide (a < 0) == decide (b < 0)) = true) : a * b = -((a.natAbs * b.natAbs : Nat) : Int) := by
  by_cases ha : a < 0 <;> by_cases hb : b < 0 <;> simp [ha, hb] at hn
  · rw [Int.natCast_mul, Int.ofNat_natAbs_of_nonpos (by omega), Int.natAbs_of_nonneg (by omega), Int.neg_mul, Int.neg_neg]
  · rw [Int.natCast_mul, Int.natAbs_of_nonneg (by omega), Int.ofNat_natAbs_of_nonpos (by omega), Int.mul_neg, Int.neg_neg]

theorem ltW_most (m p : Nat) (hm : m < 18446744073709551616) : ltW 0 (m : Int) (hiW p) (loW p) = decide (m < p) := by
  have := ltW_hilo m p
  rw [hiW_small hm, loW_small hm] at this
  exact this

/-! num.ask, handed the method value of a wide number's Less -/
set_option maxHeartbeats 1000000 in
theorem ask_ok (h l : Int) (c d : Nat) (hc : c ≤ 9223372036854775807) (hd : d ≤ 9223372036854775807) (w : World) :
    Calls Try.prog 33 #[.func (.func 34) #[.agg #[.int .u64 h, .int .u64 l]] #[], .int .i64 c, .int .i64 d] w fun e w' =>
      e = .returned (.tuple #[.bool (ltW h l (hiW (c * d)) (loW (c * d))), .int .i64 0]) ∧ Below w.heap.size w w' := by
  have c1 := Lib.hid (fun W => product_ok c d hc hd W)
  clear hc hd
  generalize c * d = p at *
  have c2 := Lib.hid (fun W => wless_any h l (hiW p) (loW p) W)
  generalize ltW h l (hiW p) (loW p) = r at *
  go_enter Try.func33, Try.ntmps33
  go_wp2_with fail
  refine (c1.out _).mono ?_
  rintro e w1 ⟨rfl, hb1⟩
  go_wp2_with fail
  refine (c2.out _).mono ?_
  rintro e w2 ⟨rfl, hb2⟩
  go_wp2
  go_ret2
  exact ⟨rfl, hb1.trans (((Below.refl _ _).alloc (Nat.le_refl _) _).trans (hb2.mono (by simp)) |>.mono hb1.size)⟩

set_option maxHeartbeats 1000000 in
theorem ask_neg (f : Value) (c d : Int) (hcd : c < 0 ∨ d < 0) (w : World) :
    Calls Try.prog 33 #[f, .int .i64 c, .int .i64 d] w fun e w' =>
      e = .returned (.tuple #[.bool false, .int .i64 10]) ∧ Below w.heap.size w w' := by
  have c1 := Lib.hid (fun W => product_neg c d hcd W)
  clear hcd
  go_enter Try.func33, Try.ntmps33
  go_wp2_with fail
  refine (c1.out _).mono ?_
  rintro e w1 ⟨rfl, hb1⟩
  go_wp2
  go_ret2
  exact ⟨rfl, hb1.trans (((Below.refl _ _).alloc (Nat.le_refl _) _).mono hb1.size)⟩

/-- num.Less of four numbers that are not below 0. -/
theorem less_ok (a b c d : Nat) (ha : a ≤ 9223372036854775807) (hb : b ≤ 9223372036854775807) (hc : c ≤ 9223372036854775807) (hd : d ≤ 9223372036854775807) (w : World) :
    Calls Try.prog 26 #[.int .i64 a, .int .i64 b, .int .i64 c, .int .i64 d] w fun e w' =>
      e = .returned (.tuple #[.bool (decide (a * b < c * d)), .int .i64 0]) ∧ Below w.heap.size w w' := by
  have c1 := Lib.hid (fun W => product_ok a b ha hb W)
  have c2 := Lib.hid (fun W => ask_ok (hiW (a * b)) (loW (a * b)) c d hc hd W)
  rw [ltW_hilo] at c2
  have hmf : ∀ (fn : Fn) (first cap : Array Value) (w : World), (Instr.makeFunc fn first cap).run Try.prog w = .ok (.func fn first cap) w := fun _ _ _ _ => rfl
  clear ha hb hc hd
  generalize decide (a * b < c * d) = r at *
  generalize a * b = p at *
  go_enter Try.func26, Try.ntmps26
  go_wp2_with fail
  refine (c1.out _).mono ?_
  rintro e w1 ⟨rfl, hb1⟩
  go_wp2_with fail
  refine (c2.out _).mono ?_
  rintro e w2 ⟨rfl, hb2⟩
  go_wp2
  go_ret2
  exact ⟨rfl, hb1.trans (((Below.refl _ _).alloc (Nat.le_refl _) _).trans (hb2.mono (by simp)) |>.mono hb1.size)⟩

theorem less_neg1 (a b c d : Int) (hab : a < 0 ∨ b < 0) (w : World) :
    Calls Try.prog 26 #[.int .i64 a, .int .i64 b, .int .i64 c, .int .i64 d] w fun e w' =>
      e = .returned (.tuple #[.bool false, .int .i64 10]) ∧ Below w.heap.size w w' := by
  have c1 := Lib.hid (fun W => product_neg a b hab W)
  clear hab
  go_enter Try.func26, Try.ntmps26
  go_wp2_with fail
  refine (c1.out _).mono ?_
  rintro e w1 ⟨rfl, hb1⟩
  go_wp2
  go_ret2
  exact ⟨rfl, hb1.trans (((Below.refl _ _).alloc (Nat.le_refl _) _).mono hb1.size)⟩

theorem less_neg2 (a b : Nat) (c d : Int) (ha : a ≤ 9223372036854775807) (hb : b ≤ 9223372036854775807) (hcd : c < 0 ∨ d < 0) (w : World) :
    Calls Try.prog 26 #[.int .i64 a, .int .i64 b, .int .i64 c, .int .i64 d] w fun e w' =>
      e = .returned (.tuple #[.bool false, .int .i64 10]) ∧ Below w.heap.size w w' := by
  have c1 := Lib.hid (fun W => product_ok a b ha hb W)
  have c2 := Lib.hid (fun f W => ask_neg f c d hcd W)
  have hmf : ∀ (fn : Fn) (first cap : Array Value) (w : World), (Instr.makeFunc fn first cap).run Try.prog w = .ok (.func fn first cap) w := fun _ _ _ _ => rfl
  clear ha hb hcd
  generalize a * b = p at *
  go_enter Try.func26, Try.ntmps26
  go_wp2_with fail
  refine (c1.out _).mono ?_
  rintro e w1 ⟨rfl, hb1⟩
  go_wp2_with fail
  refine (c2.out _ _).mono ?_
  rintro e w2 ⟨rfl, hb2⟩
  go_wp2
  go_ret2
  exact ⟨rfl, hb1.trans (((Below.refl _ _).alloc (Nat.le_refl _) _).trans (hb2.mono (by simp)) |>.mono hb1.size)⟩

end Go.Proofs.YtbkdfbddcfglgaaRRR
