/-
  The walk of NumAfter.
-/
import Derived.Test.YtmbkmljglajenaaAwake
import Derived.Test.YtmbkmljglajenaaSumK
namespace Go.Proofs.Ytmbkmljglajenaa
open Go.RowKit
set_option linter.unusedVariables false

set_option maxRecDepth 20000 in
set_option maxHeartbeats 1000000 in
theorem after_k1 (t x y a e b f s g c h te : Int) (h1 : decide (x < 0) = true) (h2 : (e != 0) = true)
    (c1 : Hid (∀ W, Calls Try.prog 29 #[.int .i64 t, .int .i64 x] W fun E w' => E = .returned (.tuple #[.int .i64 a, .int .i64 e]) ∧ W = w'))
    (c2 : Hid (∀ W, Calls Try.prog 29 #[.int .i64 a, .int .i64 y] W fun E w' => E = .returned (.tuple #[.int .i64 b, .int .i64 f]) ∧ W = w'))
    (c3 : Hid (∀ G cap W, TwoAt W G x y → Calls Try.prog 12 #[.slice (some ⟨G, 0, none⟩) 2 cap] W fun E w' => E = .returned (.tuple #[.int .i64 s, .int .i64 g]) ∧ W = w'))
    (c4 : Hid (∀ W, Calls Try.prog 29 #[.int .i64 t, .int .i64 s] W fun E w' => E = .returned (.tuple #[.int .i64 c, .int .i64 h]) ∧ W = w'))
    (c5 : Hid (∀ W, Calls Try.prog 30 #[.int .i64 t] W fun E w' => E = .returned (.int .i64 te) ∧ W = w'))
    (c6 : Hid (∀ W, Calls Try.prog 11 #[] W fun E w' => E = .returned (.bool true) ∧ Below W.heap.size W w')) (w : World) :
    Calls Try.prog 10 #[.int .i64 t, .agg #[.int .i64 x, .int .i64 y]] w fun E w' => E = .returned (.bool true) ∧ Below w.heap.size w w' := by
  go_enter Try.func10, Try.ntmps10
  go_wp2_with fail
  refine (c1.out _).mono ?_
  rintro E w' ⟨rfl, rfl⟩
  go_wp2_with fail
  refine (c2.out _).mono ?_
  rintro E w' ⟨rfl, rfl⟩
  go_wp2_with fail
  refine (c3.out _ _ _ ?hs).mono ?_
  case hs => exact ⟨by simp, by simp [go_sem], by simp [go_sem]⟩
  rintro E w' ⟨rfl, rfl⟩
  go_wp2_with fail
  refine (c4.out _).mono ?_
  rintro E w' ⟨rfl, rfl⟩
  go_wp2_with (first | (go_at_call 30; refine (c5.out _).mono ?_; rintro E w' ⟨rfl, rfl⟩) | (go_at_call 11; refine (c6.out _).mono ?_; rintro E w' ⟨rfl, hb1⟩))
  go_ret
  exact ⟨rfl, below_alloc (below_alloc hb1)⟩

set_option maxRecDepth 20000 in
set_option maxHeartbeats 1000000 in
theorem after_k2 (t x y a e b f s g c h te : Int) (h1 : decide (x < 0) = false) (h3 : decide (y < 0) = true) (h2 : (e != 0) = true)
    (c1 : Hid (∀ W, Calls Try.prog 29 #[.int .i64 t, .int .i64 x] W fun E w' => E = .returned (.tuple #[.int .i64 a, .int .i64 e]) ∧ W = w'))
    (c2 : Hid (∀ W, Calls Try.prog 29 #[.int .i64 a, .int .i64 y] W fun E w' => E = .returned (.tuple #[.int .i64 b, .int .i64 f]) ∧ W = w'))
    (c3 : Hid (∀ G cap W, TwoAt W G x y → Calls Try.prog 12 #[.slice (some ⟨G, 0, none⟩) 2 cap] W fun E w' => E = .returned (.tuple #[.int .i64 s, .int .i64 g]) ∧ W = w'))
    (c4 : Hid (∀ W, Calls Try.prog 29 #[.int .i64 t, .int .i64 s] W fun E w' => E = .returned (.tuple #[.int .i64 c, .int .i64 h]) ∧ W = w'))
    (c5 : Hid (∀ W, Calls Try.prog 30 #[.int .i64 t] W fun E w' => E = .returned (.int .i64 te) ∧ W = w'))
    (c6 : Hid (∀ W, Calls Try.prog 11 #[] W fun E w' => E = .returned (.bool true) ∧ Below W.heap.size W w')) (w : World) :
    Calls Try.prog 10 #[.int .i64 t, .agg #[.int .i64 x, .int .i64 y]] w fun E w' => E = .returned (.bool true) ∧ Below w.heap.size w w' := by
  go_enter Try.func10, Try.ntmps10
  go_wp2_with fail
  refine (c1.out _).mono ?_
  rintro E w' ⟨rfl, rfl⟩
  go_wp2_with fail
  refine (c2.out _).mono ?_
  rintro E w' ⟨rfl, rfl⟩
  go_wp2_with fail
  refine (c3.out _ _ _ ?hs).mono ?_
  case hs => exact ⟨by simp, by simp [go_sem], by simp [go_sem]⟩
  rintro E w' ⟨rfl, rfl⟩
  go_wp2_with fail
  refine (c4.out _).mono ?_
  rintro E w' ⟨rfl, rfl⟩
  go_wp2_with (first | (go_at_call 30; refine (c5.out _).mono ?_; rintro E w' ⟨rfl, rfl⟩) | (go_at_call 11; refine (c6.out _).mono ?_; rintro E w' ⟨rfl, hb1⟩))
  go_ret
  exact ⟨rfl, below_alloc (below_alloc hb1)⟩

set_option maxRecDepth 20000 in
set_option maxHeartbeats 1000000 in
theorem after_k3 (t x y a e b f s g c h te : Int) (h1 : decide (x < 0) = false) (h3 : decide (y < 0) = true) (h2 : (e != 0) = false) (h4 : (f != 0) = true)
    (c1 : Hid (∀ W, Calls Try.prog 29 #[.int .i64 t, .int .i64 x] W fun E w' => E = .returned (.tuple #[.int .i64 a, .int .i64 e]) ∧ W = w'))
    (c2 : Hid (∀ W, Calls Try.prog 29 #[.int .i64 a, .int .i64 y] W fun E w' => E = .returned (.tuple #[.int .i64 b, .int .i64 f]) ∧ W = w'))
    (c3 : Hid (∀ G cap W, TwoAt W G x y → Calls Try.prog 12 #[.slice (some ⟨G, 0, none⟩) 2 cap] W fun E w' => E = .returned (.tuple #[.int .i64 s, .int .i64 g]) ∧ W = w'))
    (c4 : Hid (∀ W, Calls Try.prog 29 #[.int .i64 t, .int .i64 s] W fun E w' => E = .returned (.tuple #[.int .i64 c, .int .i64 h]) ∧ W = w'))
    (c5 : Hid (∀ W, Calls Try.prog 30 #[.int .i64 t] W fun E w' => E = .returned (.int .i64 te) ∧ W = w'))
    (c6 : Hid (∀ W, Calls Try.prog 11 #[] W fun E w' => E = .returned (.bool true) ∧ Below W.heap.size W w')) (w : World) :
    Calls Try.prog 10 #[.int .i64 t, .agg #[.int .i64 x, .int .i64 y]] w fun E w' => E = .returned (.bool true) ∧ Below w.heap.size w w' := by
  go_enter Try.func10, Try.ntmps10
  go_wp2_with fail
  refine (c1.out _).mono ?_
  rintro E w' ⟨rfl, rfl⟩
  go_wp2_with fail
  refine (c2.out _).mono ?_
  rintro E w' ⟨rfl, rfl⟩
  go_wp2_with fail
  refine (c3.out _ _ _ ?hs).mono ?_
  case hs => exact ⟨by simp, by simp [go_sem], by simp [go_sem]⟩
  rintro E w' ⟨rfl, rfl⟩
  go_wp2_with fail
  refine (c4.out _).mono ?_
  rintro E w' ⟨rfl, rfl⟩
  go_wp2_with (first | (go_at_call 30; refine (c5.out _).mono ?_; rintro E w' ⟨rfl, rfl⟩) | (go_at_call 11; refine (c6.out _).mono ?_; rintro E w' ⟨rfl, hb1⟩))
  go_ret
  exact ⟨rfl, below_alloc (below_alloc hb1)⟩

set_option maxRecDepth 20000 in
set_option maxHeartbeats 1000000 in
theorem after_k4 (t x y a e b f s g c h te : Int) (h1 : decide (x < 0) = false) (h3 : decide (y < 0) = false) (h5 : (te != 0) = true) (h2 : (e != 0) = true)
    (c1 : Hid (∀ W, Calls Try.prog 29 #[.int .i64 t, .int .i64 x] W fun E w' => E = .returned (.tuple #[.int .i64 a, .int .i64 e]) ∧ W = w'))
    (c2 : Hid (∀ W, Calls Try.prog 29 #[.int .i64 a, .int .i64 y] W fun E w' => E = .returned (.tuple #[.int .i64 b, .int .i64 f]) ∧ W = w'))
    (c3 : Hid (∀ G cap W, TwoAt W G x y → Calls Try.prog 12 #[.slice (some ⟨G, 0, none⟩) 2 cap] W fun E w' => E = .returned (.tuple #[.int .i64 s, .int .i64 g]) ∧ W = w'))
    (c4 : Hid (∀ W, Calls Try.prog 29 #[.int .i64 t, .int .i64 s] W fun E w' => E = .returned (.tuple #[.int .i64 c, .int .i64 h]) ∧ W = w'))
    (c5 : Hid (∀ W, Calls Try.prog 30 #[.int .i64 t] W fun E w' => E = .returned (.int .i64 te) ∧ W = w'))
    (c6 : Hid (∀ W, Calls Try.prog 11 #[] W fun E w' => E = .returned (.bool true) ∧ Below W.heap.size W w')) (w : World) :
    Calls Try.prog 10 #[.int .i64 t, .agg #[.int .i64 x, .int .i64 y]] w fun E w' => E = .returned (.bool true) ∧ Below w.heap.size w w' := by
  go_enter Try.func10, Try.ntmps10
  go_wp2_with fail
  refine (c1.out _).mono ?_
  rintro E w' ⟨rfl, rfl⟩
  go_wp2_with fail
  refine (c2.out _).mono ?_
  rintro E w' ⟨rfl, rfl⟩
  go_wp2_with fail
  refine (c3.out _ _ _ ?hs).mono ?_
  case hs => exact ⟨by simp, by simp [go_sem], by simp [go_sem]⟩
  rintro E w' ⟨rfl, rfl⟩
  go_wp2_with fail
  refine (c4.out _).mono ?_
  rintro E w' ⟨rfl, rfl⟩
  go_wp2_with (first | (go_at_call 30; refine (c5.out _).mono ?_; rintro E w' ⟨rfl, rfl⟩) | (go_at_call 11; refine (c6.out _).mono ?_; rintro E w' ⟨rfl, hb1⟩))
  go_ret
  exact ⟨rfl, below_alloc (below_alloc hb1)⟩

set_option maxRecDepth 20000 in
set_option maxHeartbeats 1000000 in
theorem after_k5 (t x y a e b f s g c h te : Int) (h1 : decide (x < 0) = false) (h3 : decide (y < 0) = false) (h5 : (te != 0) = false) (h6 : (g != 0) = true) (h2 : (e != 0) = true)
    (c1 : Hid (∀ W, Calls Try.prog 29 #[.int .i64 t, .int .i64 x] W fun E w' => E = .returned (.tuple #[.int .i64 a, .int .i64 e]) ∧ W = w'))
    (c2 : Hid (∀ W, Calls Try.prog 29 #[.int .i64 a, .int .i64 y] W fun E w' => E = .returned (.tuple #[.int .i64 b, .int .i64 f]) ∧ W = w'))
    (c3 : Hid (∀ G cap W, TwoAt W G x y → Calls Try.prog 12 #[.slice (some ⟨G, 0, none⟩) 2 cap] W fun E w' => E = .returned (.tuple #[.int .i64 s, .int .i64 g]) ∧ W = w'))
    (c4 : Hid (∀ W, Calls Try.prog 29 #[.int .i64 t, .int .i64 s] W fun E w' => E = .returned (.tuple #[.int .i64 c, .int .i64 h]) ∧ W = w'))
    (c5 : Hid (∀ W, Calls Try.prog 30 #[.int .i64 t] W fun E w' => E = .returned (.int .i64 te) ∧ W = w'))
    (c6 : Hid (∀ W, Calls Try.prog 11 #[] W fun E w' => E = .returned (.bool true) ∧ Below W.heap.size W w')) (w : World) :
    Calls Try.prog 10 #[.int .i64 t, .agg #[.int .i64 x, .int .i64 y]] w fun E w' => E = .returned (.bool true) ∧ Below w.heap.size w w' := by
  go_enter Try.func10, Try.ntmps10
  go_wp2_with fail
  refine (c1.out _).mono ?_
  rintro E w' ⟨rfl, rfl⟩
  go_wp2_with fail
  refine (c2.out _).mono ?_
  rintro E w' ⟨rfl, rfl⟩
  go_wp2_with fail
  refine (c3.out _ _ _ ?hs).mono ?_
  case hs => exact ⟨by simp, by simp [go_sem], by simp [go_sem]⟩
  rintro E w' ⟨rfl, rfl⟩
  go_wp2_with fail
  refine (c4.out _).mono ?_
  rintro E w' ⟨rfl, rfl⟩
  go_wp2_with (first | (go_at_call 30; refine (c5.out _).mono ?_; rintro E w' ⟨rfl, rfl⟩) | (go_at_call 11; refine (c6.out _).mono ?_; rintro E w' ⟨rfl, hb1⟩))
  go_ret
  exact ⟨rfl, below_alloc (below_alloc hb1)⟩

set_option maxRecDepth 20000 in
set_option maxHeartbeats 1000000 in
theorem after_k6 (t x y a e b f s g c h te : Int) (h1 : decide (x < 0) = false) (h3 : decide (y < 0) = false) (h5 : (te != 0) = false) (h6 : (g != 0) = true) (h2 : (e != 0) = false) (h4 : (f != 0) = true)
    (c1 : Hid (∀ W, Calls Try.prog 29 #[.int .i64 t, .int .i64 x] W fun E w' => E = .returned (.tuple #[.int .i64 a, .int .i64 e]) ∧ W = w'))
    (c2 : Hid (∀ W, Calls Try.prog 29 #[.int .i64 a, .int .i64 y] W fun E w' => E = .returned (.tuple #[.int .i64 b, .int .i64 f]) ∧ W = w'))
    (c3 : Hid (∀ G cap W, TwoAt W G x y → Calls Try.prog 12 #[.slice (some ⟨G, 0, none⟩) 2 cap] W fun E w' => E = .returned (.tuple #[.int .i64 s, .int .i64 g]) ∧ W = w'))
    (c4 : Hid (∀ W, Calls Try.prog 29 #[.int .i64 t, .int .i64 s] W fun E w' => E = .returned (.tuple #[.int .i64 c, .int .i64 h]) ∧ W = w'))
    (c5 : Hid (∀ W, Calls Try.prog 30 #[.int .i64 t] W fun E w' => E = .returned (.int .i64 te) ∧ W = w'))
    (c6 : Hid (∀ W, Calls Try.prog 11 #[] W fun E w' => E = .returned (.bool true) ∧ Below W.heap.size W w')) (w : World) :
    Calls Try.prog 10 #[.int .i64 t, .agg #[.int .i64 x, .int .i64 y]] w fun E w' => E = .returned (.bool true) ∧ Below w.heap.size w w' := by
  go_enter Try.func10, Try.ntmps10
  go_wp2_with fail
  refine (c1.out _).mono ?_
  rintro E w' ⟨rfl, rfl⟩
  go_wp2_with fail
  refine (c2.out _).mono ?_
  rintro E w' ⟨rfl, rfl⟩
  go_wp2_with fail
  refine (c3.out _ _ _ ?hs).mono ?_
  case hs => exact ⟨by simp, by simp [go_sem], by simp [go_sem]⟩
  rintro E w' ⟨rfl, rfl⟩
  go_wp2_with fail
  refine (c4.out _).mono ?_
  rintro E w' ⟨rfl, rfl⟩
  go_wp2_with (first | (go_at_call 30; refine (c5.out _).mono ?_; rintro E w' ⟨rfl, rfl⟩) | (go_at_call 11; refine (c6.out _).mono ?_; rintro E w' ⟨rfl, hb1⟩))
  go_ret
  exact ⟨rfl, below_alloc (below_alloc hb1)⟩

set_option maxRecDepth 20000 in
set_option maxHeartbeats 1000000 in
theorem after_k7 (t x y a e b f s g c h te : Int) (h1 : decide (x < 0) = false) (h3 : decide (y < 0) = false) (h5 : (te != 0) = false) (h6 : (g != 0) = false) (h7 : (h != 0) = true) (h8 : (h == 21) = true) (h2 : (e == 21) = true)
    (c1 : Hid (∀ W, Calls Try.prog 29 #[.int .i64 t, .int .i64 x] W fun E w' => E = .returned (.tuple #[.int .i64 a, .int .i64 e]) ∧ W = w'))
    (c2 : Hid (∀ W, Calls Try.prog 29 #[.int .i64 a, .int .i64 y] W fun E w' => E = .returned (.tuple #[.int .i64 b, .int .i64 f]) ∧ W = w'))
    (c3 : Hid (∀ G cap W, TwoAt W G x y → Calls Try.prog 12 #[.slice (some ⟨G, 0, none⟩) 2 cap] W fun E w' => E = .returned (.tuple #[.int .i64 s, .int .i64 g]) ∧ W = w'))
    (c4 : Hid (∀ W, Calls Try.prog 29 #[.int .i64 t, .int .i64 s] W fun E w' => E = .returned (.tuple #[.int .i64 c, .int .i64 h]) ∧ W = w'))
    (c5 : Hid (∀ W, Calls Try.prog 30 #[.int .i64 t] W fun E w' => E = .returned (.int .i64 te) ∧ W = w'))
    (c6 : Hid (∀ W, Calls Try.prog 11 #[] W fun E w' => E = .returned (.bool true) ∧ Below W.heap.size W w')) (w : World) :
    Calls Try.prog 10 #[.int .i64 t, .agg #[.int .i64 x, .int .i64 y]] w fun E w' => E = .returned (.bool true) ∧ Below w.heap.size w w' := by
  go_enter Try.func10, Try.ntmps10
  go_wp2_with fail
  refine (c1.out _).mono ?_
  rintro E w' ⟨rfl, rfl⟩
  go_wp2_with fail
  refine (c2.out _).mono ?_
  rintro E w' ⟨rfl, rfl⟩
  go_wp2_with fail
  refine (c3.out _ _ _ ?hs).mono ?_
  case hs => exact ⟨by simp, by simp [go_sem], by simp [go_sem]⟩
  rintro E w' ⟨rfl, rfl⟩
  go_wp2_with fail
  refine (c4.out _).mono ?_
  rintro E w' ⟨rfl, rfl⟩
  go_wp2_with (first | (go_at_call 30; refine (c5.out _).mono ?_; rintro E w' ⟨rfl, rfl⟩) | (go_at_call 11; refine (c6.out _).mono ?_; rintro E w' ⟨rfl, hb1⟩))
  go_ret
  exact ⟨rfl, below_alloc (below_alloc hb1)⟩

set_option maxRecDepth 20000 in
set_option maxHeartbeats 1000000 in
theorem after_k8 (t x y a e b f s g c h te : Int) (h1 : decide (x < 0) = false) (h3 : decide (y < 0) = false) (h5 : (te != 0) = false) (h6 : (g != 0) = false) (h7 : (h != 0) = true) (h8 : (h == 21) = true) (h2 : (e == 21) = false) (h4 : (f == 21) = true)
    (c1 : Hid (∀ W, Calls Try.prog 29 #[.int .i64 t, .int .i64 x] W fun E w' => E = .returned (.tuple #[.int .i64 a, .int .i64 e]) ∧ W = w'))
    (c2 : Hid (∀ W, Calls Try.prog 29 #[.int .i64 a, .int .i64 y] W fun E w' => E = .returned (.tuple #[.int .i64 b, .int .i64 f]) ∧ W = w'))
    (c3 : Hid (∀ G cap W, TwoAt W G x y → Calls Try.prog 12 #[.slice (some ⟨G, 0, none⟩) 2 cap] W fun E w' => E = .returned (.tuple #[.int .i64 s, .int .i64 g]) ∧ W = w'))
    (c4 : Hid (∀ W, Calls Try.prog 29 #[.int .i64 t, .int .i64 s] W fun E w' => E = .returned (.tuple #[.int .i64 c, .int .i64 h]) ∧ W = w'))
    (c5 : Hid (∀ W, Calls Try.prog 30 #[.int .i64 t] W fun E w' => E = .returned (.int .i64 te) ∧ W = w'))
    (c6 : Hid (∀ W, Calls Try.prog 11 #[] W fun E w' => E = .returned (.bool true) ∧ Below W.heap.size W w')) (w : World) :
    Calls Try.prog 10 #[.int .i64 t, .agg #[.int .i64 x, .int .i64 y]] w fun E w' => E = .returned (.bool true) ∧ Below w.heap.size w w' := by
  go_enter Try.func10, Try.ntmps10
  go_wp2_with fail
  refine (c1.out _).mono ?_
  rintro E w' ⟨rfl, rfl⟩
  go_wp2_with fail
  refine (c2.out _).mono ?_
  rintro E w' ⟨rfl, rfl⟩
  go_wp2_with fail
  refine (c3.out _ _ _ ?hs).mono ?_
  case hs => exact ⟨by simp, by simp [go_sem], by simp [go_sem]⟩
  rintro E w' ⟨rfl, rfl⟩
  go_wp2_with fail
  refine (c4.out _).mono ?_
  rintro E w' ⟨rfl, rfl⟩
  go_wp2_with (first | (go_at_call 30; refine (c5.out _).mono ?_; rintro E w' ⟨rfl, rfl⟩) | (go_at_call 11; refine (c6.out _).mono ?_; rintro E w' ⟨rfl, hb1⟩))
  go_ret
  exact ⟨rfl, below_alloc (below_alloc hb1)⟩

set_option maxRecDepth 20000 in
set_option maxHeartbeats 1000000 in
theorem after_k9 (t x y a e b f s g c h te : Int) (h1 : decide (x < 0) = false) (h3 : decide (y < 0) = false) (h5 : (te != 0) = false) (h6 : (g != 0) = false) (h7 : (h != 0) = false) (h2 : (e == 0) = true) (h4 : (f == 0) = true) (h8 : (b == c) = true) (h9 : decide (a ≤ c) = true) (h10 : decide (t ≤ a) = true)
    (c1 : Hid (∀ W, Calls Try.prog 29 #[.int .i64 t, .int .i64 x] W fun E w' => E = .returned (.tuple #[.int .i64 a, .int .i64 e]) ∧ W = w'))
    (c2 : Hid (∀ W, Calls Try.prog 29 #[.int .i64 a, .int .i64 y] W fun E w' => E = .returned (.tuple #[.int .i64 b, .int .i64 f]) ∧ W = w'))
    (c3 : Hid (∀ G cap W, TwoAt W G x y → Calls Try.prog 12 #[.slice (some ⟨G, 0, none⟩) 2 cap] W fun E w' => E = .returned (.tuple #[.int .i64 s, .int .i64 g]) ∧ W = w'))
    (c4 : Hid (∀ W, Calls Try.prog 29 #[.int .i64 t, .int .i64 s] W fun E w' => E = .returned (.tuple #[.int .i64 c, .int .i64 h]) ∧ W = w'))
    (c5 : Hid (∀ W, Calls Try.prog 30 #[.int .i64 t] W fun E w' => E = .returned (.int .i64 te) ∧ W = w'))
    (c6 : Hid (∀ W, Calls Try.prog 11 #[] W fun E w' => E = .returned (.bool true) ∧ Below W.heap.size W w')) (w : World) :
    Calls Try.prog 10 #[.int .i64 t, .agg #[.int .i64 x, .int .i64 y]] w fun E w' => E = .returned (.bool true) ∧ Below w.heap.size w w' := by
  go_enter Try.func10, Try.ntmps10
  go_wp2_with fail
  refine (c1.out _).mono ?_
  rintro E w' ⟨rfl, rfl⟩
  go_wp2_with fail
  refine (c2.out _).mono ?_
  rintro E w' ⟨rfl, rfl⟩
  go_wp2_with fail
  refine (c3.out _ _ _ ?hs).mono ?_
  case hs => exact ⟨by simp, by simp [go_sem], by simp [go_sem]⟩
  rintro E w' ⟨rfl, rfl⟩
  go_wp2_with fail
  refine (c4.out _).mono ?_
  rintro E w' ⟨rfl, rfl⟩
  go_wp2_with (first | (go_at_call 30; refine (c5.out _).mono ?_; rintro E w' ⟨rfl, rfl⟩) | (go_at_call 11; refine (c6.out _).mono ?_; rintro E w' ⟨rfl, hb1⟩))
  go_ret
  exact ⟨rfl, below_alloc (below_alloc hb1)⟩

theorem afterE_ok {t b : Int} (h0 : 0 ≤ t) (h1 : t < 1099511627776) (hb : 0 ≤ b) (hs : b < 1099511627776 - t) : afterE t b = 0 ∧ afterN t b = t + b := by
  have e : afterE t b = 0 := by unfold afterE; rw [if_pos (timeE_ok h0 h1), if_neg (by omega), if_neg (by omega)]
  exact ⟨e, if_pos e⟩
theorem afterE_far {t b : Int} (h0 : 0 ≤ t) (h1 : t < 1099511627776) (hb : 0 ≤ b) (hs : 1099511627776 - t ≤ b) : afterE t b = 21 := by
  unfold afterE; rw [if_pos (timeE_ok h0 h1), if_neg (by omega), if_pos hs]
theorem afterE_neg {t b : Int} (h0 : 0 ≤ t) (h1 : t < 1099511627776) (hb : b < 0) : afterE t b = 10 := by
  unfold afterE; rw [if_pos (timeE_ok h0 h1), if_pos hb]
theorem afterE_bad {t b : Int} (h : t < 0 ∨ 1099511627776 ≤ t) : afterE t b ≠ 0 := by
  unfold afterE; rw [if_neg (timeE_ne h)]; exact timeE_ne h

theorem walk_NumAfter (t x y : Int) (w : World) (_ht : -9223372036854775808 ≤ t ∧ t ≤ 9223372036854775807) (hx : -9223372036854775808 ≤ x ∧ x ≤ 9223372036854775807) (hy : -9223372036854775808 ≤ y ∧ y ≤ 9223372036854775807) :
    Calls Try.prog 10 #[.int .i64 t, .agg #[.int .i64 x, .int .i64 y]] w fun E w' => E = .returned (.bool true) ∧ Below w.heap.size w w' := by
  have c1 := Lib.hid (fun W => after_any t x W)
  have c2 := Lib.hid (fun W => after_any (afterN t x) y W)
  have c3 := Lib.hid (fun G cap W hW => sum_two_at x y hx hy G cap W hW)
  have c4 := Lib.hid (fun W => after_any t (sumR 0 [x, y]).1 W)
  have c5 := Lib.hid (fun W => time_any t W)
  have c6 := Lib.hid (fun W => awake_any W)
  by_cases hxn : x < 0
  · refine after_k1 _ _ _ _ _ _ _ _ _ _ _ _ (by simpa using hxn) ?_ c1 c2 c3 c4 c5 c6 w
    rw [bne_iff_ne]
    by_cases hb : t < 0 ∨ 1099511627776 ≤ t
    · exact afterE_bad hb
    · rw [afterE_neg (by omega) (by omega) hxn]; decide
  by_cases hyn : y < 0
  · by_cases he : afterE t x = 0
    · refine after_k3 _ _ _ _ _ _ _ _ _ _ _ _ (by simpa using hxn) (by simpa using hyn) (by simpa using he) ?_ c1 c2 c3 c4 c5 c6 w
      rw [bne_iff_ne]
      by_cases hb : t < 0 ∨ 1099511627776 ≤ t
      · exact absurd he (afterE_bad hb)
      by_cases hs : 1099511627776 - t ≤ x
      · rw [afterE_far (by omega) (by omega) (by omega) hs] at he; exact absurd he (by decide)
      rw [(afterE_ok (by omega) (by omega) (by omega) (by omega) : afterE t x = 0 ∧ afterN t x = t + x).2, afterE_neg (by omega) (by omega) hyn]
      decide
    · exact after_k2 _ _ _ _ _ _ _ _ _ _ _ _ (by simpa using hxn) (by simpa using hyn) (by simpa using he) c1 c2 c3 c4 c5 c6 w
  have hx' : decide (x < 0) = false := by simpa using hxn
  have hy' : decide (y < 0) = false := by simpa using hyn
  by_cases hb : t < 0 ∨ 1099511627776 ≤ t
  · exact after_k4 _ _ _ _ _ _ _ _ _ _ _ _ hx' hy' (by simpa using timeE_ne hb) (by simpa using afterE_bad hb) c1 c2 c3 c4 c5 c6 w
  have ht : (timeE t != 0) = false := by simpa using timeE_ok (by omega) (by omega)
  by_cases hs : 1099511627776 - t ≤ x
  · have he := afterE_far (t := t) (b := x) (by omega) (by omega) (by omega) hs
    by_cases hg : (sumR 0 [x, y]).2 = 0
    · obtain ⟨h1, h2⟩ := sumR_pair_ok hx hy hg
      have hh := afterE_far (t := t) (b := (sumR 0 [x, y]).1) (by omega) (by omega) (by omega) (by omega)
      exact after_k7 _ _ _ _ _ _ _ _ _ _ _ _ hx' hy' ht (by simpa using hg) (by rw [hh]; decide) (by rw [hh]; decide) (by rw [he]; decide) c1 c2 c3 c4 c5 c6 w
    · exact after_k5 _ _ _ _ _ _ _ _ _ _ _ _ hx' hy' ht (by simpa using hg) (by rw [he]; decide) c1 c2 c3 c4 c5 c6 w
  obtain ⟨he, hn⟩ := afterE_ok (t := t) (b := x) (by omega) (by omega) (by omega) (by omega)
  by_cases hg : (sumR 0 [x, y]).2 = 0
  · obtain ⟨h1, h2⟩ := sumR_pair_ok hx hy hg
    by_cases hf : 1099511627776 - (t + x) ≤ y
    · have hh := afterE_far (t := t) (b := (sumR 0 [x, y]).1) (by omega) (by omega) (by omega) (by omega)
      have hff := afterE_far (t := t + x) (b := y) (by omega) (by omega) (by omega) hf
      exact after_k8 _ _ _ _ _ _ _ _ _ _ _ _ hx' hy' ht (by simpa using hg) (by rw [hh]; decide) (by rw [hh]; decide) (by rw [he]; decide) (by rw [hn, hff]; decide) c1 c2 c3 c4 c5 c6 w
    · obtain ⟨hh, hc⟩ := afterE_ok (t := t) (b := (sumR 0 [x, y]).1) (by omega) (by omega) (by omega) (by omega)
      obtain ⟨hff, hbb⟩ := afterE_ok (t := t + x) (b := y) (by omega) (by omega) (by omega) (by omega)
      refine after_k9 _ _ _ _ _ _ _ _ _ _ _ _ hx' hy' ht (by simpa using hg) (by rw [hh]; decide) (by rw [he]; decide) (by rw [hn, hff]; decide) ?_ ?_ ?_ c1 c2 c3 c4 c5 c6 w
      · rw [hn, hbb, hc, beq_iff_eq]; omega
      · rw [hn, hc, decide_eq_true_eq]; omega
      · rw [hn, decide_eq_true_eq]; omega
  · have hl := sumR_pair_over hx hy hg
    have hff := afterE_far (t := t + x) (b := y) (by omega) (by omega) (by omega) (by omega)
    exact after_k6 _ _ _ _ _ _ _ _ _ _ _ _ hx' hy' ht (by simpa using hg) (by rw [he]; decide) (by rw [hn, hff]; decide) c1 c2 c3 c4 c5 c6 w
end Go.Proofs.Ytmbkmljglajenaa
