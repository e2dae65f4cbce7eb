/-
  The law's does: Change.
-/
import Derived.Test.YtdmdebelcklfhaaDoA
namespace Go.Proofs.Ytdmdebelcklfhaa
open Go.RowKit Go.Sort Go.Shelf Go.Maps
set_option linter.unusedVariables false
set_option linter.unusedSimpArgs false

set_option maxHeartbeats 2000000 in
set_option maxRecDepth 20000 in
theorem does_change (hb rf : Nat) (y x e1 : Int) (P1 P2 : World → Prop) (W : World)
    (c1 : ∀ W0, OpGrew W 1 y x W0 → Calls Try.prog 20 #[.pointer (some ⟨hb, 0, none⟩), .int .i64 x, .int .i64 y] W0 fun e w' => e = .returned (.int .i64 e1) ∧ P1 w')
    (hP : ∀ w', P1 w' → OpAt w' W.heap.size 1 y x)
    (c2 : ∀ w1, P1 w1 → Calls Try.prog 46 #[.pointer (some ⟨rf, 0, none⟩), .agg #[.int .i64 y, .int .i64 x]] w1 fun e w' => e = .returned (.int .i64 e1) ∧ P2 w') :
    Calls Try.prog 15 #[.pointer (some ⟨hb, 0, none⟩), .pointer (some ⟨rf, 0, none⟩), opV 1 y x] W fun e w' => e = .returned (.bool true) ∧ P2 w' := by
  have mixed : Try.prog.follows .mixedOrders = true := by kernel_rfl
  have C1 := Lib.hid c1
  have C2 := Lib.hid c2
  have HP := Lib.hid hP
  clear c1 c2 hP
  go_enter Try.func15, Try.ntmps15
  go_wp2_with fail
  go_region_with (first | (go_at_call 20; (refine (C1.out _ (opGrew _ _ _ _ 1)).mono ?_); rintro e w1 ⟨rfl, h1⟩; obtain ⟨o1, o2, o3⟩ := HP.out w1 h1; have H1 := Lib.hid h1; clear h1) | (go_at_call 46; (refine (C2.out _ H1.out).mono ?_); rintro e w2 ⟨rfl, h2⟩))
  all_goals (go_wp2_with fail; go_ret; exact ⟨rfl, h2⟩)
end Go.Proofs.Ytdmdebelcklfhaa
