/-
  The law's does: Take, Peek.
-/
import Derived.Test.YtdmdebelcklfhaaDoC
namespace Go.Proofs.Ytdmdebelcklfhaa
open Go.RowKit Go.Sort Go.Shelf Go.Maps
set_option linter.unusedVariables false
set_option linter.unusedSimpArgs false

/-- The world with the call boxed, and beside it the key that is looked for. -/
def OpGrew2 (W : World) (q y x v i : Int) (W0 : World) : Prop := Grew W W0 ∧ OpAt W0 W.heap.size q y x ∧ W0.cell? ⟨W.heap.size + 1, 0, none⟩ = some (.int .i64 v) ∧ W0.cell? ⟨W.heap.size + 1, 1, none⟩ = some (.int .i64 i)
abbrev keyBox (v i : Int) : Obj := .cells #[.int .i64 v, .int .i64 i] 36
theorem opGrew2 (W : World) (q y x v i : Int) : OpGrew2 W q y x v i ((W.alloc (opBox q y x)).alloc (keyBox v i)) := by
  have h := ((Grew.refl W).alloc (opBox q y x)).alloc (keyBox v i)
  exact ⟨h, ⟨by simp [go_sem], by simp [go_sem], by simp [go_sem]⟩, by simp [go_sem], by simp [go_sem]⟩

set_option maxHeartbeats 4000000 in
set_option maxRecDepth 20000 in
theorem does_take_none (hb rf : Nat) (y x : Int) (a : Option Addr) (cap : Nat) (P1 : World → Prop) (W : World) (hrf : rf < W.heap.size) (hr : W.cell? ⟨rf, 0, none⟩ = some (.slice a 0 cap))
    (c1 : ∀ W0, OpGrew2 W 4 y x 0 0 W0 → Calls Try.prog 44 #[.pointer (some ⟨hb, 0, none⟩)] W0 fun e w' => e = .returned (.tuple #[.int .i64 0, .int .i64 0, .int .i64 14]) ∧ P1 w')
    (hP : ∀ w', P1 w' → OpGrew2 W 4 y x 0 0 w') :
    Calls Try.prog 15 #[.pointer (some ⟨hb, 0, none⟩), .pointer (some ⟨rf, 0, none⟩), opV 4 y x] W fun e w' => e = .returned (.bool true) ∧ P1 w' := by
  have C1 := Lib.hid c1
  have HP := Lib.hid hP
  have hr2 : ((W.alloc (opBox 4 y x)).alloc (keyBox 0 0)).cell? ⟨rf, 0, none⟩ = some (.slice a 0 cap) := by
    rw [(((Grew.refl W).alloc (opBox 4 y x)).alloc (keyBox 0 0)).cell hrf]; exact hr
  clear c1 hP
  go_enter Try.func15, Try.ntmps15
  go_wp2_with (first | (go_at_call 44; (refine (C1.out _ (opGrew2 _ _ _ _ _ _)).mono ?_); rintro e w1 ⟨rfl, h1⟩; obtain ⟨_, ⟨o1, o2, o3⟩, o4, o5⟩ := HP.out w1 h1; have H1 := Lib.hid h1; clear h1))
  go_ret
  exact ⟨rfl, H1.out⟩

set_option maxHeartbeats 4000000 in
set_option maxRecDepth 20000 in
theorem does_peek_none (hb rf : Nat) (q y x : Int) (hq : q ≠ 0 ∧ q ≠ 1 ∧ q ≠ 2 ∧ q ≠ 3 ∧ q ≠ 4) (a : Option Addr) (cap : Nat) (P1 : World → Prop) (W : World) (hrf : rf < W.heap.size) (hr : W.cell? ⟨rf, 0, none⟩ = some (.slice a 0 cap))
    (c1 : ∀ W0, OpGrew2 W q y x 0 0 W0 → Calls Try.prog 49 #[.pointer (some ⟨hb, 0, none⟩)] W0 fun e w' => e = .returned (.tuple #[.int .i64 0, .int .i64 0, .int .i64 14]) ∧ P1 w')
    (hP : ∀ w', P1 w' → OpGrew2 W q y x 0 0 w') :
    Calls Try.prog 15 #[.pointer (some ⟨hb, 0, none⟩), .pointer (some ⟨rf, 0, none⟩), opV q y x] W fun e w' => e = .returned (.bool true) ∧ P1 w' := by
  have C1 := Lib.hid c1
  have HP := Lib.hid hP
  have hr2 : ((W.alloc (opBox q y x)).alloc (keyBox 0 0)).cell? ⟨rf, 0, none⟩ = some (.slice a 0 cap) := by
    rw [(((Grew.refl W).alloc (opBox q y x)).alloc (keyBox 0 0)).cell hrf]; exact hr
  obtain ⟨q0, q1, q2, q3, q4⟩ := hq
  have b0 : (q == 0) = false := beq_eq_false_iff_ne.2 q0
  have b1 : (q == 1) = false := beq_eq_false_iff_ne.2 q1
  have b2 : (q == 2) = false := beq_eq_false_iff_ne.2 q2
  have b3 : (q == 3) = false := beq_eq_false_iff_ne.2 q3
  have b4 : (q == 4) = false := beq_eq_false_iff_ne.2 q4
  clear c1 hP
  go_enter Try.func15, Try.ntmps15
  go_wp2_with (first | (go_at_call 49; (refine (C1.out _ (opGrew2 _ _ _ _ _ _)).mono ?_); rintro e w1 ⟨rfl, h1⟩; obtain ⟨_, ⟨o1, o2, o3⟩, o4, o5⟩ := HP.out w1 h1; have H1 := Lib.hid h1; clear h1))
  go_ret
  exact ⟨rfl, H1.out⟩

set_option maxHeartbeats 4000000 in
set_option maxRecDepth 20000 in
theorem does_peek (hb rf : Nat) (q y x v i : Int) (hq : q ≠ 0 ∧ q ≠ 1 ∧ q ≠ 2 ∧ q ≠ 3 ∧ q ≠ 4) (g n cap : Nat) (hn : 0 < n) (P1 : World → Prop) (W : World) (hrf : rf < W.heap.size) (hg : g < W.heap.size) (hr : W.cell? ⟨rf, 0, none⟩ = some (.slice (some ⟨g, 0, none⟩) n cap)) (hv : W.cell? ⟨g, 0, none⟩ = some (.int .i64 v)) (hi : W.cell? ⟨g, 1, none⟩ = some (.int .i64 i))
    (c1 : ∀ W0, OpGrew2 W q y x v i W0 → Calls Try.prog 49 #[.pointer (some ⟨hb, 0, none⟩)] W0 fun e w' => e = .returned (.tuple #[.int .i64 i, .int .i64 v, .int .i64 0]) ∧ P1 w')
    (hP : ∀ w', P1 w' → OpGrew2 W q y x v i w') :
    Calls Try.prog 15 #[.pointer (some ⟨hb, 0, none⟩), .pointer (some ⟨rf, 0, none⟩), opV q y x] W fun e w' => e = .returned (.bool true) ∧ P1 w' := by
  have C1 := Lib.hid c1
  have HP := Lib.hid hP
  have gg := ((Grew.refl W).alloc (opBox q y x)).alloc (keyBox 0 0)
  have hr2 : ((W.alloc (opBox q y x)).alloc (keyBox 0 0)).cell? ⟨rf, 0, none⟩ = some (.slice (some ⟨g, 0, none⟩) n cap) := by rw [gg.cell hrf]; exact hr
  have hv2 : ((W.alloc (opBox q y x)).alloc (keyBox 0 0)).cell? ⟨g, 0, none⟩ = some (.int .i64 v) := by rw [gg.cell hg]; exact hv
  have hi2 : ((W.alloc (opBox q y x)).alloc (keyBox 0 0)).cell? ⟨g, 1, none⟩ = some (.int .i64 i) := by rw [gg.cell hg]; exact hi
  have hn0 : decide ((n : Int) > 0) = true := decide_eq_true (by omega)
  obtain ⟨q0, q1, q2, q3, q4⟩ := hq
  have b0 : (q == 0) = false := beq_eq_false_iff_ne.2 q0
  have b1 : (q == 1) = false := beq_eq_false_iff_ne.2 q1
  have b2 : (q == 2) = false := beq_eq_false_iff_ne.2 q2
  have b3 : (q == 3) = false := beq_eq_false_iff_ne.2 q3
  have b4 : (q == 4) = false := beq_eq_false_iff_ne.2 q4
  clear c1 hP gg hr hv hi
  go_enter Try.func15, Try.ntmps15
  go_wp2_with (first | (go_at_call 49; (refine (C1.out _ (opGrew2 _ _ _ _ _ _)).mono ?_); rintro e w1 ⟨rfl, h1⟩; obtain ⟨_, ⟨o1, o2, o3⟩, o4, o5⟩ := HP.out w1 h1; have H1 := Lib.hid h1; clear h1))
  go_ret
  exact ⟨rfl, H1.out⟩

set_option maxHeartbeats 4000000 in
set_option maxRecDepth 20000 in
theorem does_take (hb rf : Nat) (y x v i : Int) (g n cap : Nat) (hn : 0 < n) (P1 P2 : World → Prop) (W : World) (hrf : rf < W.heap.size) (hg : g < W.heap.size) (hr : W.cell? ⟨rf, 0, none⟩ = some (.slice (some ⟨g, 0, none⟩) n cap)) (hv : W.cell? ⟨g, 0, none⟩ = some (.int .i64 v)) (hi : W.cell? ⟨g, 1, none⟩ = some (.int .i64 i))
    (c1 : ∀ W0, OpGrew2 W 4 y x v i W0 → Calls Try.prog 44 #[.pointer (some ⟨hb, 0, none⟩)] W0 fun e w' => e = .returned (.tuple #[.int .i64 i, .int .i64 v, .int .i64 0]) ∧ P1 w')
    (hP : ∀ w', P1 w' → w'.cell? ⟨W.heap.size + 1, 0, none⟩ = some (.int .i64 v) ∧ w'.cell? ⟨W.heap.size + 1, 1, none⟩ = some (.int .i64 i))
    (c2 : ∀ w1, P1 w1 → Calls Try.prog 47 #[.pointer (some ⟨rf, 0, none⟩), .int .i64 i] w1 fun e w' => (∃ r, e = .returned r) ∧ P2 w')
    (hQ : ∀ w', P2 w' → w'.cell? ⟨W.heap.size + 1, 0, none⟩ = some (.int .i64 v) ∧ w'.cell? ⟨W.heap.size + 1, 1, none⟩ = some (.int .i64 i)) :
    Calls Try.prog 15 #[.pointer (some ⟨hb, 0, none⟩), .pointer (some ⟨rf, 0, none⟩), opV 4 y x] W fun e w' => e = .returned (.bool true) ∧ P2 w' := by
  have C1 := Lib.hid c1
  have C2 := Lib.hid c2
  have HP := Lib.hid hP
  have HQ := Lib.hid hQ
  have gg := ((Grew.refl W).alloc (opBox 4 y x)).alloc (keyBox 0 0)
  have hr2 : ((W.alloc (opBox 4 y x)).alloc (keyBox 0 0)).cell? ⟨rf, 0, none⟩ = some (.slice (some ⟨g, 0, none⟩) n cap) := by rw [gg.cell hrf]; exact hr
  have hv2 : ((W.alloc (opBox 4 y x)).alloc (keyBox 0 0)).cell? ⟨g, 0, none⟩ = some (.int .i64 v) := by rw [gg.cell hg]; exact hv
  have hi2 : ((W.alloc (opBox 4 y x)).alloc (keyBox 0 0)).cell? ⟨g, 1, none⟩ = some (.int .i64 i) := by rw [gg.cell hg]; exact hi
  have hn0 : decide ((n : Int) > 0) = true := decide_eq_true (by omega)
  clear c1 c2 hP hQ gg hr hv hi
  go_enter Try.func15, Try.ntmps15
  go_wp2_with (first | (go_at_call 44; (refine (C1.out _ (opGrew2 _ _ _ _ _ _)).mono ?_); rintro e w1 ⟨rfl, h1⟩; obtain ⟨o4, o5⟩ := HP.out w1 h1; have H1 := Lib.hid h1; clear h1) | (go_at_call 47; (refine (C2.out _ H1.out).mono ?_); rintro e w2 ⟨⟨r, rfl⟩, h2⟩; obtain ⟨p4, p5⟩ := HQ.out w2 h2; have H2 := Lib.hid h2; clear h2))
  go_ret
  exact ⟨rfl, H2.out⟩
end Go.Proofs.Ytdmdebelcklfhaa
