/-
  Heap[int]: what less, tells and compare answer; behind them the world has grown by blocks of their own alone.
-/
import Derived.Test.YtcipilggddpnpaaProg
import Derived.WalkKit
import Derived.WalkSpells
import Derived.WalkLawsBesides
import Derived.Lib.Hide
import Derived.Defers
import Derived.Recover
import Derived.Laws.Pointers
import Derived.Shelf.Abstract
import Derived.Shelf.SlSortCmp.QuietGrown
namespace Go.Proofs.Ytcipilggddpnpaa
open Go.RowKit Go.Sort Go.Shelf
set_option linter.unusedVariables false

/-- w' is w, some draws on, with some blocks laid behind it. -/
def Grew (w w' : World) : Prop := ∃ q os, w' = grow (w.drewN q) os

theorem Grew.refl (w : World) : Grew w w := ⟨0, #[], by rw [grow_empty]; rfl⟩
theorem Grew.trans {a b c : World} (h : Grew a b) (k : Grew b c) : Grew a c := by
  obtain ⟨q, os, rfl⟩ := h
  obtain ⟨q', os', rfl⟩ := k
  exact ⟨q + q', os ++ os', by show grow (grow ((a.drewN q).drewN q') os) os' = _; rw [grow_grow, World.drewN_drewN]⟩
theorem Grew.alloc {a b : World} (h : Grew a b) (o : Obj) : Grew a (b.alloc o) := h.trans ⟨0, #[o], by rw [alloc_eq_grow]; rfl⟩
theorem Grew.drew {a b : World} (h : Grew a b) : Grew a b.drew := h.trans ⟨1, #[], by rw [grow_empty]; rfl⟩
theorem Grew.size {a b : World} (h : Grew a b) : a.heap.size ≤ b.heap.size := by
  obtain ⟨q, os, rfl⟩ := h
  rw [size_grow]; exact Nat.le_add_right _ _
theorem Grew.block {a b : World} (h : Grew a b) {k : Nat} (hk : k < a.heap.size) : b.heap[k]? = a.heap[k]? := by
  obtain ⟨q, os, rfl⟩ := h
  show (a.heap ++ os)[k]? = a.heap[k]?
  rw [Array.getElem?_append_left hk]
theorem Grew.cell {a b : World} (h : Grew a b) {p : Addr} (hp : p.block < a.heap.size) : b.cell? p = a.cell? p := World.cell?_of_block (h.block hp)
theorem Grew.frozen {a b : World} (h : Grew a b) {p : Addr} (hp : p.block < a.heap.size) : b.frozen? p = a.frozen? p := World.frozen?_of_block (h.block hp)
theorem Grew.below {a b : World} (h : Grew a b) : Below a.heap.size a b := by
  obtain ⟨q, os, rfl⟩ := h
  exact ⟨rfl, rfl, rfl, by rw [size_grow]; exact Nat.le_add_right _ _, fun k hk => Grew.block ⟨q, os, rfl⟩ hk⟩

/-- A store into a block that was laid since: grown all the same. -/
theorem Grew.setCell {a b : World} (h : Grew a b) {p : Addr} (hp : a.heap.size ≤ p.block) (u : Value) : Grew a (b.setCell p u) := by
  obtain ⟨q, os, rfl⟩ := h
  refine ⟨q, (((grow (a.drewN q) os).setCell p u).heap.toList.drop a.heap.size).toArray, ?_⟩
  unfold World.setCell grow
  simp only [World.mk.injEq, and_true]
  apply Array.ext_getElem?
  intro i
  by_cases hi : i < a.heap.size
  · rw [Array.getElem?_append_left (by exact hi), Array.getElem?_modify, if_neg (by omega), Array.getElem?_append_left (by exact hi)]
  · rw [Array.getElem?_append_right (by show a.heap.size ≤ i; omega)]
    have e1 : ∀ (x : Array Obj) (j : Nat), (x.toList.drop a.heap.size).toArray[j]? = x[a.heap.size + j]? := fun x j => by simp
    rw [e1]
    congr 1
    show i = a.heap.size + (i - a.heap.size)
    omega

/-- WHAT IS ASKED OF less: function g, bound to cb, answers lt, and lays blocks of its own at most. -/
structure LessIs (g : Nat) (cb : Array Value) (lt : Int → Int → Bool) : Prop where
  enters : ∀ args w, (callFunc g args).run Try.prog w = .ok (.enter g args) w
  says : ∀ x y W, Calls Try.prog g (#[.int .i64 x, .int .i64 y] ++ cb) W fun e w' => e = .returned (.bool (lt x y)) ∧ Grew W w'

theorem tells_idle (p : Addr) (w : World) :
    CallsD Try.prog 91 #[.pointer (some p)] .returning w fun e u' w' => e = .returned (.tuple #[]) ∧ u' = .returning ∧ w' = w := by
  refine callsD_of_wpS Try.func91 rfl fun c₀ cs hu => ?_
  apply wpS_seq
  apply wpS_region
  simp [wpOpsS, go_sem, recoverD, hu, Try.ntmps91, Exit.thenS]
  refine wpS_cond (t := false) (by simp [Act.eval, Array.replicate]) ?_
  simp only [Bool.false_eq_true, if_false]
  refine wpS_of_wp (wp_skip ?_)
  cases c₀
  simp_all [bodyPostS, results, Try.results91]

set_option maxHeartbeats 1000000 in
theorem tells_any (g : Nat) (cb : Array Value) (lt : Int → Int → Bool) (hl : LessIs g cb lt) (hb : Nat) (x y : Int) (w : World) (hlt : hb < w.heap.size) (hc : w.cell? ⟨hb, 0, none⟩ = some (.func (.func g) #[] cb)) :
    Calls Try.prog 65 #[.pointer (some ⟨hb, 0, none⟩), .int .i64 x, .int .i64 y] w fun e w' => e = .returned (.bool (lt x y)) ∧ Grew w w' := by
  have hmf : ∀ (fn : Fn) (first cap : Array Value) (w : World), (Instr.makeFunc fn first cap).run Try.prog w = .ok (.func fn first cap) w := fun _ _ _ _ => rfl
  have eg := hl.enters
  have hs := Lib.hid (hl.says x y (w.alloc (.cells #[.bool false] 4)))
  have hc' : (w.alloc (.cells #[.bool false] 4)).cell? ⟨hb, 0, none⟩ = some (.func (.func g) #[] cb) := by
    rw [← hc]; exact World.cell?_of_block (Below.heap_alloc _ _ _ hlt)
  clear hl
  go_enter_defers Try.func65, Try.ntmps65
  go_wp2_with (go_at_fn g; refine hs.out.mono ?_; rintro e w' ⟨rfl, hg⟩; have hbc : w'.cell? ⟨w.heap.size, 0, none⟩ = some (.bool false) := (by rw [hg.cell (by simp)]; simp); have hbf : w'.frozen? ⟨w.heap.size, 0, none⟩ = false := (by rw [hg.frozen (by simp)]; simp))
  refine leaves_cons (f := 91) (args := #[.pointer (some ⟨w.heap.size, 0, none⟩)]) (by simp) (by simp [go_sem]) ?_
  refine (tells_idle ⟨w.heap.size, 0, none⟩ _).mono ?_
  rintro e u' w'' ⟨rfl, rfl, rfl⟩
  have hG : Grew w (w'.setCell ⟨w.heap.size, 0, none⟩ (.bool (lt x y))) := (((Grew.refl w).alloc _).trans hg).setCell (Nat.le_refl _) _
  simp [Leaves, settle, results, Try.results65, go_sem, hbc, hG]

theorem isNaN_int (x : Int) (w : World) : Calls Try.prog 92 #[.int .i64 x] w fun e w' => e = .returned (.bool false) ∧ w = w' := by
  go_enter Try.func92, Try.ntmps92
  go_wp2
  go_ret
  exact ⟨rfl, rfl⟩

/-- What cmp.Compare answers. -/
def cmpZ (x y : Int) : Int := if x < y then -1 else if y < x then 1 else 0

set_option maxHeartbeats 400000 in
theorem cmp_int (x y : Int) (w : World) : Calls Try.prog 66 #[.int .i64 x, .int .i64 y] w fun e w' => e = .returned (.int .i64 (cmpZ x y)) ∧ w = w' := by
  have c1 := Lib.hid (isNaN_int x w)
  have c2 := Lib.hid (isNaN_int y w)
  by_cases h : x < y
  · have e1 : cmpZ x y = -1 := if_pos h
    rw [e1]; clear e1
    go_enter Try.func66, Try.ntmps66
    go_wp2_with (first | (go_at_call 92; (with_reducible refine c1.out.mono ?_); rintro e w' ⟨rfl, rfl⟩) | (go_at_call 92; (with_reducible refine c2.out.mono ?_); rintro e w' ⟨rfl, rfl⟩))
    go_ret
    exact ⟨rfl, rfl⟩
  by_cases h2 : y < x
  · have e1 : cmpZ x y = 1 := by unfold cmpZ; rw [if_neg h, if_pos h2]
    rw [e1]; clear e1
    go_enter Try.func66, Try.ntmps66
    go_wp2_with (first | (go_at_call 92; (with_reducible refine c1.out.mono ?_); rintro e w' ⟨rfl, rfl⟩) | (go_at_call 92; (with_reducible refine c2.out.mono ?_); rintro e w' ⟨rfl, rfl⟩))
    go_ret
    exact ⟨rfl, rfl⟩
  · have e1 : cmpZ x y = 0 := by unfold cmpZ; rw [if_neg h, if_neg h2]
    rw [e1]; clear e1
    go_enter Try.func66, Try.ntmps66
    go_wp2_with (first | (go_at_call 92; (with_reducible refine c1.out.mono ?_); rintro e w' ⟨rfl, rfl⟩) | (go_at_call 92; (with_reducible refine c2.out.mono ?_); rintro e w' ⟨rfl, rfl⟩))
    go_ret
    exact ⟨rfl, rfl⟩

/-- An entry: a number, and its key. -/
abbrev Ent := Int × Int

/-- What compare answers. -/
def cmpE (lt : Int → Int → Bool) (a b : Ent) : Int := if lt a.2 b.2 then -1 else if lt b.2 a.2 then 1 else cmpZ a.1 b.1

set_option maxHeartbeats 1000000 in
theorem compare_any (g : Nat) (cb : Array Value) (lt : Int → Int → Bool) (hl : LessIs g cb lt) (hb : Nat) (a b : Ent) (w : World) (hlt : hb < w.heap.size) (hc : w.cell? ⟨hb, 0, none⟩ = some (.func (.func g) #[] cb)) :
    Calls Try.prog 40 #[.pointer (some ⟨hb, 0, none⟩), .agg #[.int .i64 a.1, .int .i64 a.2], .agg #[.int .i64 b.1, .int .i64 b.2]] w fun e w' => e = .returned (.int .i64 (cmpE lt a b)) ∧ Grew w w' := by
  obtain ⟨i, x⟩ := a
  obtain ⟨j, y⟩ := b
  obtain ⟨W, hW⟩ : ∃ W, (w.alloc (.cells #[.int .i64 i, .int .i64 x] 74)).alloc (.cells #[.int .i64 j, .int .i64 y] 74) = W := ⟨_, rfl⟩
  have hG : Grew w W := by rw [← hW]; exact ((Grew.refl w).alloc _).alloc _
  have hsz : W.heap.size = w.heap.size + 2 := by rw [← hW]; simp
  have C1 : ∀ W', Grew W W' → Hid (Calls Try.prog 65 #[.pointer (some ⟨hb, 0, none⟩), .int .i64 x, .int .i64 y] W' fun e w' => e = .returned (.bool (lt x y)) ∧ Grew W' w') := fun W' h =>
    tells_any g cb lt hl hb x y W' (by have := h.size; omega) (by rw [h.cell (by show hb < W.heap.size; omega), hG.cell hlt]; exact hc)
  have C2 : ∀ W', Grew W W' → Hid (Calls Try.prog 65 #[.pointer (some ⟨hb, 0, none⟩), .int .i64 y, .int .i64 x] W' fun e w' => e = .returned (.bool (lt y x)) ∧ Grew W' w') := fun W' h =>
    tells_any g cb lt hl hb y x W' (by have := h.size; omega) (by rw [h.cell (by show hb < W.heap.size; omega), hG.cell hlt]; exact hc)
  have P : ∀ W', Grew W W' → W'.cell? ⟨w.heap.size, 0, none⟩ = some (.int .i64 i) ∧ W'.cell? ⟨w.heap.size, 1, none⟩ = some (.int .i64 x) ∧ W'.cell? ⟨w.heap.size + 1, 0, none⟩ = some (.int .i64 j) ∧ W'.cell? ⟨w.heap.size + 1, 1, none⟩ = some (.int .i64 y) := fun W' h => by
    refine ⟨?_, ?_, ?_, ?_⟩ <;> (rw [h.cell (by simp only []; omega), ← hW]; simp [go_sem])
  clear hl hc
  obtain ⟨p1, p2, p3, p4⟩ := P W (Grew.refl W)
  have PP : Hid _ := P
  have hGG : Hid (Grew w W) := hG
  clear P hG
  by_cases h1 : lt x y = true
  · have e1 : cmpE lt (i, x) (j, y) = -1 := if_pos h1
    rw [e1]; clear e1
    go_enter Try.func40, Try.ntmps40
    go_wp2_with (go_at_call 65; (with_reducible refine (C1 _ (Grew.refl _)).out.mono ?_); rintro e w1 ⟨rfl, g1⟩)
    go_ret
    exact ⟨rfl, hGG.out.trans g1⟩
  have h1' : lt x y = false := by simpa using h1
  by_cases h2 : lt y x = true
  · have e1 : cmpE lt (i, x) (j, y) = 1 := by unfold cmpE; rw [if_neg h1, if_pos h2]
    rw [e1]; clear e1 h1
    go_enter Try.func40, Try.ntmps40
    go_wp2_with (first | (go_at_call 65; (with_reducible refine (C1 _ (Grew.refl _)).out.mono ?_); rintro e w1 ⟨rfl, g1⟩; obtain ⟨q1, q2, q3, q4⟩ := PP.out w1 g1) | (go_at_call 65; (with_reducible refine (C2 _ g1).out.mono ?_); rintro e w2 ⟨rfl, g2⟩))
    go_ret
    exact ⟨rfl, (hGG.out.trans g1).trans g2⟩
  · have h2' : lt y x = false := by simpa using h2
    have e1 : cmpE lt (i, x) (j, y) = cmpZ i j := by unfold cmpE; rw [if_neg h1, if_neg h2]
    rw [e1]; clear e1 h1 h2
    have C3 : ∀ W', Hid (Calls Try.prog 66 #[.int .i64 i, .int .i64 j] W' fun e w' => e = .returned (.int .i64 (cmpZ i j)) ∧ W' = w') := fun W' => cmp_int i j W'
    generalize cmpZ i j = z at *
    go_enter Try.func40, Try.ntmps40
    go_wp2_with (first | (go_at_call 65; (with_reducible refine (C1 _ (Grew.refl _)).out.mono ?_); rintro e w1 ⟨rfl, g1⟩; obtain ⟨q1, q2, q3, q4⟩ := PP.out w1 g1) | (go_at_call 65; (with_reducible refine (C2 _ g1).out.mono ?_); rintro e w2 ⟨rfl, g2⟩; obtain ⟨r1, r2, r3, r4⟩ := PP.out w2 (g1.trans g2)) | (go_at_call 66; (with_reducible refine (C3 _).out.mono ?_); rintro e w3 ⟨rfl, rfl⟩))
    go_ret
    exact ⟨rfl, (hGG.out.trans g1).trans g2⟩

/-- The order: a is ahead of b. -/
def ahd (lt : Int → Int → Bool) (a b : Ent) : Bool := decide (cmpE lt a b < 0)

theorem ahd_eq (lt : Int → Int → Bool) (a b : Ent) : ahd lt a b = (lt a.2 b.2 || (!lt b.2 a.2 && decide (a.1 < b.1))) := by
  unfold ahd cmpE cmpZ
  cases lt a.2 b.2 <;> cases lt b.2 a.2 <;> simp
  by_cases h : a.1 < b.1
  · simp [h]
  · by_cases h2 : b.1 < a.1 <;> simp [h, h2]
end Go.Proofs.Ytcipilggddpnpaa
