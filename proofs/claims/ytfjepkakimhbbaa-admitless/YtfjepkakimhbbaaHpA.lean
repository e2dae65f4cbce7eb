/-
  Heap[int]: what less, tells and compare answer; behind them the world has grown by blocks of their own alone.
-/
import Derived.Test.YtfjepkakimhbbaaProg
import Derived.WalkKit
import Derived.WalkSpells
import Derived.WalkLawsBesides
import Derived.Lib.Hide
import Derived.Defers
import Derived.Recover
import Derived.Laws.Pointers
import Derived.Shelf.Abstract
import Derived.Shelf.SlSortCmp.QuietGrown
namespace Go.Proofs.Ytfjepkakimhbbaa
open Go.RowKit Go.Sort Go.Shelf
set_option linter.unusedVariables false

/-- w' is w, some draws on, with some blocks laid behind it. -/
def Grew (w w' : World) : Prop := ∃ q os, w' = grow (w.drewN q) os

theorem Grew.refl (w : World) : Grew w w := ⟨0, #[], by rw [grow_empty]; rfl⟩
theorem Grew.trans {a b c : World} (h : Grew a b) (k : Grew b c) : Grew a c := by
  obtain ⟨q, os, rfl⟩ := h
  obtain ⟨q', os', rfl⟩ := k
  exact ⟨q + q', os ++ os', by show grow (grow ((a.drewN q).drewN q') os) os' = _; rw [grow_grow, World.drewN_drewN]⟩
theorem Grew.alloc {a b : World} (h : Grew a b) (o : Obj) : Grew a (b.alloc o) := h.trans ⟨0, #[o], by rw [alloc_eq_grow]; rfl⟩
theorem Grew.drew {a b : World} (h : Grew a b) : Grew a b.drew := h.trans ⟨1, #[], by rw [grow_empty]; rfl⟩
theorem Grew.size {a b : World} (h : Grew a b) : a.heap.size ≤ b.heap.size := by
  obtain ⟨q, os, rfl⟩ := h
  rw [size_grow]; exact Nat.le_add_right _ _
theorem Grew.block {a b : World} (h : Grew a b) {k : Nat} (hk : k < a.heap.size) : b.heap[k]? = a.heap[k]? := by
  obtain ⟨q, os, rfl⟩ := h
  show (a.heap ++ os)[k]? = a.heap[k]?
  rw [Array.getElem?_append_left hk]
theorem Grew.cell {a b : World} (h : Grew a b) {p : Addr} (hp : p.block < a.heap.size) : b.cell? p = a.cell? p := World.cell?_of_block (h.block hp)
theorem Grew.frozen {a b : World} (h : Grew a b) {p : Addr} (hp : p.block < a.heap.size) : b.frozen? p = a.frozen? p := World.frozen?_of_block (h.block hp)
theorem Grew.below {a b : World} (h : Grew a b) : Below a.heap.size a b := by
  obtain ⟨q, os, rfl⟩ := h
  exact ⟨rfl, rfl, rfl, by rw [size_grow]; exact Nat.le_add_right _ _, fun k hk => Grew.block ⟨q, os, rfl⟩ hk⟩

/-- A store into a block that was laid since: grown all the same. -/
theorem Grew.setCell {a b : World} (h : Grew a b) {p : Addr} (hp : a.heap.size ≤ p.block) (u : Value) : Grew a (b.setCell p u) := by
  obtain ⟨q, os, rfl⟩ := h
  refine ⟨q, (((grow (a.drewN q) os).setCell p u).heap.toList.drop a.heap.size).toArray, ?_⟩
  unfold World.setCell grow
  simp only [World.mk.injEq, and_true]
  apply Array.ext_getElem?
  intro i
  by_cases hi : i < a.heap.size
  · rw [Array.getElem?_append_left (by exact hi), Array.getElem?_modify, if_neg (by omega), Array.getElem?_append_left (by exact hi)]
  · rw [Array.getElem?_append_right (by show a.heap.size ≤ i; omega)]
    have e1 : ∀ (x : Array Obj) (j : Nat), (x.toList.drop a.heap.size).toArray[j]? = x[a.heap.size + j]? := fun x j => by simp
    rw [e1]
    congr 1
    show i = a.heap.size + (i - a.heap.size)
    omega

/-- WHAT IS ASKED OF less: function g, bound to cb, answers lt, and lays blocks of its own at most. -/
structure LessIs (g : Nat) (cb : Array Value) (lt : Int → Int → Bool) : Prop where
  enters : ∀ args w, (callFunc g args).run Try.prog w = .ok (.enter g args) w
  says : ∀ x y W, Calls Try.prog g (#[.int .i64 x, .int .i64 y] ++ cb) W fun e w' => e = .returned (.bool (lt x y)) ∧ Grew W w'

/-- What cmp.Compare answers. -/
def cmpZ (x y : Int) : Int := if x < y then -1 else if y < x then 1 else 0

/-- An entry: a number, and its key. -/
abbrev Ent := Int × Int

/-- What compare answers. -/
def cmpE (lt : Int → Int → Bool) (a b : Ent) : Int := if lt a.2 b.2 then -1 else if lt b.2 a.2 then 1 else cmpZ a.1 b.1

/-- The order: a is ahead of b. -/
def ahd (lt : Int → Int → Bool) (a b : Ent) : Bool := decide (cmpE lt a b < 0)

theorem ahd_eq (lt : Int → Int → Bool) (a b : Ent) : ahd lt a b = (lt a.2 b.2 || (!lt b.2 a.2 && decide (a.1 < b.1))) := by
  unfold ahd cmpE cmpZ
  cases lt a.2 b.2 <;> cases lt b.2 a.2 <;> simp
  by_cases h : a.1 < b.1
  · simp [h]
  · by_cases h2 : b.1 < a.1 <;> simp [h, h2]
end Go.Proofs.Ytfjepkakimhbbaa
