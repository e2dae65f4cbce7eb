/-
  The walks of math/bits.Len64 and LeadingZeros64: by how much a number is to be shifted so that its highest bit is set.
-/
import Derived.Test.YtfjepkakimhbbaaProg
import Derived.Lib.Strings
import Derived.Lib.Slices
import Derived.Lib.Small
import Derived.Lib.Walk
import Derived.Lib.BitFns
namespace Go.Proofs.Ytfjepkakimhbbaa

/-- The table's byte behind a shift by k, and k: as many bits as the number wants. -/
theorem len_end (x : Int) (k : Nat) (y : Int) (hk : k ≤ 56) (h0 : 0 ≤ y) (h1 : y ≤ 255) (e : y.toNat = x.toNat / 2 ^ k) (hx : 2 ^ k ≤ x.toNat) (hm : x.toNat < 2 ^ 64) :
    ((k : Int) + ((Lib.len8 y + 9223372036854775808) % 18446744073709551616 - 9223372036854775808) + 9223372036854775808) % 18446744073709551616 - 9223372036854775808 = (Lib.bitLen x.toNat : Int) := by
  have hl := Lib.bitLen_le8' y h0 h1
  rw [Lib.len8_of y h0 h1, Lib.bitLen_shift k x.toNat hx hm, ← e]
  omega
theorem len_small (x : Int) (h0 : 0 ≤ x) (h1 : x < 256) :
    (Lib.len8 (x % 256) + 9223372036854775808) % 18446744073709551616 - 9223372036854775808 = (Lib.bitLen x.toNat : Int) := by
  rw [show x % 256 = x by omega]
  exact Lib.len8_int x h0 (by omega)

set_option maxHeartbeats 4000000 in
set_option maxRecDepth 100000 in
theorem len64_any (x : Int) (w : World) (h0 : 0 ≤ x) (h1 : x ≤ 18446744073709551615) :
    Calls Try.prog 51 #[.int .u64 x] w fun e w' => e = .returned (.int .i64 (Lib.bitLen x.toNat)) ∧ w = w' := by
  have hm : x.toNat < 2 ^ 64 := by omega
  go_enter Try.func51, Try.ntmps51
  go_wp2
  all_goals (go_ret; refine ⟨congrArg (fun n => Ending.returned (.int .i64 n)) ?_, rfl⟩)
  · exact len_end x 56 _ (by omega) (by omega) (by omega) (by omega) (by omega) hm
  · exact len_end x 48 _ (by omega) (by omega) (by omega) (by omega) (by omega) hm
  · exact len_end x 40 _ (by omega) (by omega) (by omega) (by omega) (by omega) hm
  · exact len_end x 32 _ (by omega) (by omega) (by omega) (by omega) (by omega) hm
  · exact len_end x 24 _ (by omega) (by omega) (by omega) (by omega) (by omega) hm
  · exact len_end x 16 _ (by omega) (by omega) (by omega) (by omega) (by omega) hm
  · exact len_end x 8 _ (by omega) (by omega) (by omega) (by omega) (by omega) hm
  · exact len_small x h0 (by omega)

/-- The number's highest bit. -/
theorem bitLen_top : ∀ (n : Nat) (x : Nat), x < 2 ^ n → n ≤ 64 → x ≠ 0 → ∃ k, Lib.bitLen x = k + 1 ∧ 2 ^ k ≤ x ∧ x < 2 ^ (k + 1)
  | 0, x, h, _, h0 => absurd h (by omega)
  | n + 1, x, h, hn, h0 => by
    have h64 : x < 2 ^ 64 := Nat.lt_of_lt_of_le h (Nat.pow_le_pow_right (by decide) hn)
    have hb := Lib.bitLen_half x h0 h64
    by_cases h1 : x / 2 = 0
    · refine ⟨0, ?_, by omega, by omega⟩
      rw [hb, h1]
      decide
    · obtain ⟨k, e, l, u⟩ := bitLen_top n (x / 2) (by rw [Nat.pow_succ] at h; omega) (by omega) h1
      refine ⟨k + 1, by omega, by rw [Nat.pow_succ]; omega, ?_⟩
      rw [Nat.pow_succ 2 (k + 1)]
      omega

end Go.Proofs.Ytfjepkakimhbbaa
