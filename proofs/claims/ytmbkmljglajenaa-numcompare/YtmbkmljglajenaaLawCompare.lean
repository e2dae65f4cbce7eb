/-
  The walk of NumCompare.
-/
import Derived.Test.YtmbkmljglajenaaCompFF
import Derived.Test.YtmbkmljglajenaaCompFT
import Derived.Test.YtmbkmljglajenaaCompTF
namespace Go.Proofs.Ytmbkmljglajenaa
open Go.RowKit
set_option linter.unusedVariables false

theorem compare_core (a b c ah al bh bl hh lo er m n o u : Int) (x y : Bool)
    (hx : Hid (InT a → InT b → InT c → (x = true ∧ y = false ∧ 0 < b ∧ a < c) ∨ (x = false ∧ (b ≤ 0 ∨ c ≤ a))))
    (c1 : Hid (InT a → InT b → InT c → ∀ W, Calls Try.prog 23 #[.int .i64 a, .int .i64 b, .int .i64 b, .int .i64 c] W fun E w' => E = .returned (.tuple #[.bool x, .int .i64 0]) ∧ Below W.heap.size W w'))
    (c2 : Hid (InT a → InT b → InT c → ∀ W, Calls Try.prog 23 #[.int .i64 b, .int .i64 c, .int .i64 a, .int .i64 b] W fun E w' => E = .returned (.tuple #[.bool y, .int .i64 0]) ∧ Below W.heap.size W w'))
    (c3 : Hid (InT a → InT b → InT c → ∀ W, Calls Try.prog 23 #[.int .i64 a, .int .i64 c, .int .i64 c, .int .i64 a] W fun E w' => E = .returned (.tuple #[.bool false, .int .i64 0]) ∧ Below W.heap.size W w'))
    (c4 : Hid (∀ W, Calls Try.prog 25 #[.agg #[.int .u64 ah, .int .u64 al], .agg #[.int .u64 bh, .int .u64 bl]] W fun E w' => E = .returned (.tuple #[.agg #[.int .u64 hh, .int .u64 lo], .int .i64 er]) ∧ Below W.heap.size W w'))
    (c5 : Hid (∀ W, Calls Try.prog 25 #[.agg #[.int .u64 bh, .int .u64 bl], .agg #[.int .u64 ah, .int .u64 al]] W fun E w' => E = .returned (.tuple #[.agg #[.int .u64 hh, .int .u64 lo], .int .i64 er]) ∧ Below W.heap.size W w'))
    (hm : Hid (InT a → InT b → InT c → c ≠ 0 → a ≤ 1048576 → m ≤ n ∧ o ≤ m ∧ m ≤ u ∧ u ≤ m + 1 ∧ 0 ≤ m ∧ m ≤ 9223372036854775806))
    (d1 : Hid (InT a → InT b → InT c → c ≠ 0 → a ≤ 1048576 → ∀ W, Calls Try.prog 28 #[.int .i64 a, .int .i64 b, .int .i64 c, .bool false] W fun E w' => E = .returned (.tuple #[.int .i64 m, .int .i64 0]) ∧ Below W.heap.size W w'))
    (d2 : Hid (InT a → InT b → InT c → c ≠ 0 → a ≤ 1048576 → ∀ W, Calls Try.prog 28 #[.int .i64 (a + 1), .int .i64 b, .int .i64 c, .bool false] W fun E w' => E = .returned (.tuple #[.int .i64 n, .int .i64 0]) ∧ Below W.heap.size W w'))
    (d3 : Hid (InT a → InT b → InT c → c ≠ 0 → a ≤ 1048576 → ∀ W, Calls Try.prog 28 #[.int .i64 a, .int .i64 b, .int .i64 (c + 1), .bool false] W fun E w' => E = .returned (.tuple #[.int .i64 o, .int .i64 0]) ∧ Below W.heap.size W w'))
    (d4 : Hid (InT a → InT b → InT c → c ≠ 0 → a ≤ 1048576 → ∀ W, Calls Try.prog 28 #[.int .i64 a, .int .i64 b, .int .i64 c, .bool true] W fun E w' => E = .returned (.tuple #[.int .i64 u, .int .i64 0]) ∧ Below W.heap.size W w'))
    (cA : Hid (∀ W, Calls Try.prog 11 #[] W fun E w' => E = .returned (.bool true) ∧ Below W.heap.size W w')) (w : World) :
    Calls Try.prog 9 #[.agg #[.int .i64 a, .int .i64 b, .int .i64 c], .agg #[.int .u64 ah, .int .u64 al], .agg #[.int .u64 bh, .int .u64 bl]] w fun E w' => E = .returned (.bool true) ∧ Below w.heap.size w w' := by
  cases L1 : ltW ah al bh bl
  · cases L2 : ltW bh bl ah al
    · exact compare_FF a b c ah al bh bl hh lo er m n o u x y hx c1 c2 c3 c4 c5 hm d1 d2 d3 d4 cA (Lib.hid L1) (Lib.hid L2) w
    · exact compare_FT a b c ah al bh bl hh lo er m n o u x y hx c1 c2 c3 c4 c5 hm d1 d2 d3 d4 cA (Lib.hid L1) (Lib.hid L2) w
  · exact compare_TF a b c ah al bh bl hh lo er m n o u x y hx c1 c2 c3 c4 c5 hm d1 d2 d3 d4 cA (Lib.hid L1) (Lib.hid (ltW_asym L1).1) w
end Go.Proofs.Ytmbkmljglajenaa
