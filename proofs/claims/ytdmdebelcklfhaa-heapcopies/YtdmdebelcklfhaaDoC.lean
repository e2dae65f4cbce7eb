/-
  The law's does: Drop, Get, Take, Peek.
-/
import Derived.Test.YtdmdebelcklfhaaDoA
namespace Go.Proofs.Ytdmdebelcklfhaa
open Go.RowKit Go.Sort Go.Shelf Go.Maps
set_option linter.unusedVariables false
set_option linter.unusedSimpArgs false

set_option maxHeartbeats 2000000 in
set_option maxRecDepth 20000 in
theorem does_drop (hb rf : Nat) (y x v e1 : Int) (P1 P2 : World → Prop) (W : World)
    (c1 : ∀ W0, OpGrew W 2 y x W0 → Calls Try.prog 21 #[.pointer (some ⟨hb, 0, none⟩), .int .i64 x] W0 fun e w' => e = .returned (.tuple #[.int .i64 v, .int .i64 e1]) ∧ P1 w')
    (hP : ∀ w', P1 w' → OpAt w' W.heap.size 2 y x)
    (c2 : ∀ w1, P1 w1 → Calls Try.prog 47 #[.pointer (some ⟨rf, 0, none⟩), .int .i64 x] w1 fun e w' => e = .returned (.tuple #[.int .i64 v, .int .i64 e1]) ∧ P2 w') :
    Calls Try.prog 15 #[.pointer (some ⟨hb, 0, none⟩), .pointer (some ⟨rf, 0, none⟩), opV 2 y x] W fun e w' => e = .returned (.bool true) ∧ P2 w' := by
  have C1 := Lib.hid c1
  have C2 := Lib.hid c2
  have HP := Lib.hid hP
  clear c1 c2 hP
  go_enter Try.func15, Try.ntmps15
  go_wp2_with (first | (go_at_call 21; (refine (C1.out _ (opGrew _ _ _ _ 0)).mono ?_); rintro e w1 ⟨rfl, h1⟩; obtain ⟨o1, o2, o3⟩ := HP.out w1 h1; have H1 := Lib.hid h1; clear h1) | (go_at_call 47; (refine (C2.out _ H1.out).mono ?_); rintro e w2 ⟨rfl, h2⟩))
  go_ret
  exact ⟨rfl, h2⟩

set_option maxHeartbeats 2000000 in
set_option maxRecDepth 20000 in
theorem does_get_none (hb rf : Nat) (y x : Int) (P1 P2 : World → Prop) (W : World)
    (c1 : ∀ W0, OpGrew W 3 y x W0 → Calls Try.prog 19 #[.pointer (some ⟨hb, 0, none⟩), .int .i64 x] W0 fun e w' => e = .returned (.tuple #[.int .i64 0, .int .i64 14]) ∧ P1 w')
    (hP : ∀ w', P1 w' → OpAt w' W.heap.size 3 y x)
    (c2 : ∀ w1, P1 w1 → Calls Try.prog 48 #[.pointer (some ⟨rf, 0, none⟩), .int .i64 x] w1 fun e w' => e = .returned (.int .i64 (-1)) ∧ P2 w') :
    Calls Try.prog 15 #[.pointer (some ⟨hb, 0, none⟩), .pointer (some ⟨rf, 0, none⟩), opV 3 y x] W fun e w' => e = .returned (.bool true) ∧ P2 w' := by
  have C1 := Lib.hid c1
  have C2 := Lib.hid c2
  have HP := Lib.hid hP
  clear c1 c2 hP
  go_enter Try.func15, Try.ntmps15
  go_wp2_with (first | (go_at_call 19; (refine (C1.out _ (opGrew _ _ _ _ 0)).mono ?_); rintro e w1 ⟨rfl, h1⟩; obtain ⟨o1, o2, o3⟩ := HP.out w1 h1; have H1 := Lib.hid h1; clear h1) | (go_at_call 48; (refine (C2.out _ H1.out).mono ?_); rintro e w2 ⟨rfl, h2⟩))
  go_ret
  exact ⟨rfl, h2⟩

set_option maxHeartbeats 2000000 in
set_option maxRecDepth 20000 in
theorem does_get (hb rf : Nat) (y x v : Int) (i n cap g : Nat) (hi : i < n) (P1 P2 : World → Prop) (W : World)
    (c1 : ∀ W0, OpGrew W 3 y x W0 → Calls Try.prog 19 #[.pointer (some ⟨hb, 0, none⟩), .int .i64 x] W0 fun e w' => e = .returned (.tuple #[.int .i64 v, .int .i64 0]) ∧ P1 w')
    (hP : ∀ w', P1 w' → OpAt w' W.heap.size 3 y x)
    (c2 : ∀ w1, P1 w1 → Calls Try.prog 48 #[.pointer (some ⟨rf, 0, none⟩), .int .i64 x] w1 fun e w' => e = .returned (.int .i64 i) ∧ P2 w')
    (hQ : ∀ w', P2 w' → w'.cell? ⟨rf, 0, none⟩ = some (.slice (some ⟨g, 0, none⟩) n cap) ∧ w'.cell? ⟨g, i * 2, none⟩ = some (.int .i64 v)) :
    Calls Try.prog 15 #[.pointer (some ⟨hb, 0, none⟩), .pointer (some ⟨rf, 0, none⟩), opV 3 y x] W fun e w' => e = .returned (.bool true) ∧ P2 w' := by
  have C1 := Lib.hid c1
  have C2 := Lib.hid c2
  have HP := Lib.hid hP
  have HQ := Lib.hid hQ
  have hi' : (i : Int) < (n : Int) := by omega
  have hi0 : decide ((i : Int) < 0) = false := decide_eq_false (by omega)
  clear c1 c2 hP hQ
  go_enter Try.func15, Try.ntmps15
  go_wp2_with (first | (go_at_call 19; (refine (C1.out _ (opGrew _ _ _ _ 0)).mono ?_); rintro e w1 ⟨rfl, h1⟩; obtain ⟨o1, o2, o3⟩ := HP.out w1 h1; have H1 := Lib.hid h1; clear h1) | (go_at_call 48; (refine (C2.out _ H1.out).mono ?_); rintro e w2 ⟨rfl, h2⟩; obtain ⟨r1, r2⟩ := HQ.out w2 h2; have H2 := Lib.hid h2; clear h2))
  go_ret
  exact ⟨rfl, H2.out⟩
end Go.Proofs.Ytdmdebelcklfhaa
