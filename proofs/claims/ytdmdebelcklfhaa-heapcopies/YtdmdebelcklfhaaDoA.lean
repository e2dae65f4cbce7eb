/-
  The law's does: one call on the heap and on the reference, over whatever both do.
-/
import Derived.Test.YtdmdebelcklfhaaRfD
import Derived.Deep.RegionWith
namespace Go.Proofs.Ytdmdebelcklfhaa
open Go.RowKit Go.Sort Go.Shelf Go.Maps
set_option linter.unusedVariables false
set_option linter.unusedSimpArgs false

/-- The law's call as it lies boxed: what is asked, the key's time, its number. -/
def OpAt (W : World) (b : Nat) (q y x : Int) : Prop := W.cell? ⟨b, 0, none⟩ = some (.int .i64 q) ∧ W.cell? ⟨b, 1, none⟩ = some (.int .i64 y) ∧ W.cell? ⟨b, 2, none⟩ = some (.int .i64 x)
abbrev opBox (q y x : Int) : Obj := .cells #[.int .i64 q, .int .i64 y, .int .i64 x] 38
abbrev opV (q y x : Int) : Value := .agg #[.int .i64 q, .int .i64 y, .int .i64 x]

/-- The world with the call boxed, some draws on. -/
def OpGrew (W : World) (q y x : Int) (W0 : World) : Prop := Grew W W0 ∧ OpAt W0 W.heap.size q y x
theorem opGrew (W : World) (q y x : Int) (n : Nat) : OpGrew W q y x ((W.alloc (opBox q y x)).drewN n) := by
  have h := (Grew.refl W).alloc (opBox q y x)
  have h2 : Grew (W.alloc (opBox q y x)) ((W.alloc (opBox q y x)).drewN n) := ⟨n, #[], by rw [grow_empty]⟩
  have a0 : (W.alloc (opBox q y x)).cell? ⟨W.heap.size, 0, none⟩ = some (.int .i64 q) := by simp [go_sem]
  have a1 : (W.alloc (opBox q y x)).cell? ⟨W.heap.size, 1, none⟩ = some (.int .i64 y) := by simp [go_sem]
  have a2 : (W.alloc (opBox q y x)).cell? ⟨W.heap.size, 2, none⟩ = some (.int .i64 x) := by simp [go_sem]
  exact ⟨h.trans h2, a0, a1, a2⟩

set_option maxHeartbeats 2000000 in
set_option maxRecDepth 20000 in
theorem does_put (hb rf : Nat) (y x e1 : Int) (P1 P2 : World → Prop) (W : World)
    (c1 : ∀ W0, OpGrew W 0 y x W0 → Calls Try.prog 22 #[.pointer (some ⟨hb, 0, none⟩), .int .i64 x, .int .i64 y] W0 fun e w' => e = .returned (.int .i64 e1) ∧ P1 w')
    (hP : ∀ w', P1 w' → OpAt w' W.heap.size 0 y x)
    (c2 : ∀ w1, P1 w1 → Calls Try.prog 45 #[.pointer (some ⟨rf, 0, none⟩), .agg #[.int .i64 y, .int .i64 x]] w1 fun e w' => e = .returned (.int .i64 e1) ∧ P2 w') :
    Calls Try.prog 15 #[.pointer (some ⟨hb, 0, none⟩), .pointer (some ⟨rf, 0, none⟩), opV 0 y x] W fun e w' => e = .returned (.bool true) ∧ P2 w' := by
  have mixed : Try.prog.follows .mixedOrders = true := by kernel_rfl
  have C1 := Lib.hid c1
  have C2 := Lib.hid c2
  have HP := Lib.hid hP
  clear c1 c2 hP
  go_enter Try.func15, Try.ntmps15
  go_wp2_with fail
  go_region_with (first | (go_at_call 22; (refine (C1.out _ (opGrew _ _ _ _ 1)).mono ?_); rintro e w1 ⟨rfl, h1⟩; obtain ⟨o1, o2, o3⟩ := HP.out w1 h1; have H1 := Lib.hid h1; clear h1) | (go_at_call 45; (refine (C2.out _ H1.out).mono ?_); rintro e w2 ⟨rfl, h2⟩))
  all_goals (go_wp2_with fail; go_ret; exact ⟨rfl, h2⟩)
end Go.Proofs.Ytdmdebelcklfhaa
