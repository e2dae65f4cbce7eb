/-
  Heap[int]: New, Take, Change; a heap by what is in it.
-/
import Derived.Test.YtcipilggddpnpaaHpI
namespace Go.Proofs.Ytcipilggddpnpaa
open Go.RowKit Go.Sort Go.Shelf Go.Maps
set_option linter.unusedVariables false
set_option linter.unusedSimpArgs false

set_option maxHeartbeats 1000000 in
set_option maxRecDepth 20000 in
theorem new_any (g : Nat) (cb : Array Value) (w : World) :
    Calls Try.prog 7 #[.func (.func g) #[] cb] w fun e w' => e = .returned (.tuple #[.pointer (some ⟨w.heap.size + 1, 0, none⟩), .int .i64 0]) ∧ HP w' (w.heap.size + 1) w.heap.size none (.func (.func g) #[] cb) [] ∧ Grew w w' := by
  have hnf : ∀ (f : Fn) (b c : Array Value) (w : World), (binOp .eql 27 (.func f b c) Value.nilFunc).run Try.prog w = .ok (.bool false) w := fun _ _ _ _ => rfl
  have hmm := @run_makeMap Try.prog
  go_enter Try.func7, Try.ntmps7
  go_wp2
  go_ret2
  refine ⟨rfl, .inl ⟨rfl, rfl, ⟨?_⟩, ?_⟩, ((Grew.refl w).alloc _).alloc _⟩
  · have := heap_alloc_new (w.alloc (.map #[] 0)) (.cells #[.func (.func g) #[] cb, .slice none 0 0, .map (some w.heap.size)] 69)
    simpa using this
  · exact (World.ownsMap_made w _ _ _).alloc _

set_option maxHeartbeats 1000000 in
theorem take_none (w : World) (hb mb : Nat) (ro : Option Nat) (fv : Value) (R : List Ent) (h : HP w hb mb ro fv R) (h0 : R.length = 0) :
    Calls Try.prog 32 #[.pointer (some ⟨hb, 0, none⟩)] w fun e w' => e = .returned (.tuple #[.int .i64 0, .int .i64 0, .int .i64 14]) ∧ Grew w w' := by
  have C := Lib.hid (peek_none w hb mb ro fv R h h0)
  clear h h0
  go_enter Try.func32, Try.ntmps32
  go_wp2_with (go_at_call 60; refine C.out.mono ?_; rintro e w' ⟨rfl, hg⟩)
  go_ret3
  exact ⟨rfl, hg⟩

set_option maxHeartbeats 1000000 in
theorem take_some (g : Nat) (cb : Array Value) (lt : Int → Int → Bool) (hl : LessIs g cb lt) (hW : Hp.Weak lt) (w : World) (hb mb rb cap : Nat) (R : List Ent) (h : HeapIs w hb rb mb cap (.func (.func g) #[] cb) R) (hy : Hp.Heapy (ahd lt) (gt R) R.length) (h0 : 0 < R.length) :
    Calls Try.prog 32 #[.pointer (some ⟨hb, 0, none⟩)] w fun e w' => e = .returned (.tuple #[.int .i64 (rid R 0), .int .i64 (rky R 0), .int .i64 0]) ∧ ∃ R', (R.getD 0 (0, 0) :: R').Perm R ∧ Hp.Heapy (ahd lt) (gt R') R'.length ∧
      HeapIs w' hb rb mb cap (.func (.func g) #[] cb) R' ∧ Kept (Mine hb mb (some rb)) w w' := by
  have C := Lib.hid (peek_some w hb mb rb cap _ R h h0)
  have C2 : ∀ W, Grew w W → Hid (Calls Try.prog 11 #[.pointer (some ⟨hb, 0, none⟩), .int .i64 (rid R 0)] W fun e w' => e = .returned (.tuple #[.int .i64 (rky R 0), .int .i64 0]) ∧ ∃ R', (R.getD 0 (0, 0) :: R').Perm R ∧ Hp.Heapy (ahd lt) (gt R') R'.length ∧
      HeapIs w' hb rb mb cap (.func (.func g) #[] cb) R' ∧ Kept (Mine hb mb (some rb)) W w') := fun W hG => drop_there g cb lt hl hW W hb mb rb cap R (h.grew hG) hy 0 h0
  clear h h0 hl hW hy
  generalize rid R 0 = id at *
  generalize rky R 0 = k at *
  go_enter Try.func32, Try.ntmps32
  go_wp2_with (first | (go_at_call 60; refine C.out.mono ?_; rintro e w1 ⟨rfl, hg⟩) | (go_at_call 11; refine (C2 _ hg).out.mono ?_; rintro e w2 ⟨rfl, R', p1, p2, p3, p4⟩; have P := Lib.hid (And.intro p1 (And.intro p2 (And.intro p3 p4))); clear p1 p2 p3 p4))
  go_ret3
  exact ⟨rfl, R', P.out.1, P.out.2.1, P.out.2.2.1, (hg.kept _).trans P.out.2.2.2⟩

theorem RowAt.set1 {w : World} {rb cap : Nat} {R : List Ent} (h : RowAt w rb cap R) {i : Nat} (hi : i < R.length) (y : Int) :
    RowAt (w.setCell ⟨rb, i * 2 + 1, none⟩ (.int .i64 y)) rb cap (R.set i (rid R i, y)) := by
  obtain ⟨⟨cur, h1, h2, h5⟩, h3, h4⟩ := h
  refine ⟨⟨cur.setIfInBounds (i * 2 + 1) (.int .i64 y), ?_, by simp [h2], ?_⟩, by simpa using h3, h4⟩
  · simp [World.setCell, Array.getElem?_modify, h1]
  · intro j hj
    have hj' : j < R.length := by simpa using hj
    have sz : i * 2 + 1 < cur.size := by omega
    have h6 := h5 j hj'
    unfold rid rky at h6 ⊢
    rw [getD_set _ _ _ _ hi]
    simp only [Array.getElem?_setIfInBounds]
    by_cases e : j = i
    · subst e
      rw [if_neg (by omega), if_pos rfl, if_pos rfl, if_pos sz]
      exact ⟨h6.1, rfl⟩
    · rw [if_neg e, if_neg (by omega), if_neg (by omega)]
      exact h6

theorem HeapIs.set1 {w : World} {hb rb mb cap : Nat} {fv : Value} {R : List Ent} (h : HeapIs w hb rb mb cap fv R) {i : Nat} (hi : i < R.length) (y : Int) (hy : Is64 y) : HeapIs (w.setCell ⟨rb, i * 2 + 1, none⟩ (.int .i64 y)) hb rb mb cap fv (R.set i (rid R i, y)) := by
  obtain ⟨D, hM, hP, hS⟩ := h.map
  have hl : (R.set i (rid R i, y)).length = R.length := by simp
  have hr : ∀ j, rid (R.set i (rid R i, y)) j = rid R j := fun j => by
    unfold rid
    rw [getD_set _ _ _ _ hi]
    by_cases e : j = i
    · rw [if_pos e, e]
    · rw [if_neg e]
  refine ⟨by rw [hl]; exact h.obj.kept (Below.heap_setCell _ _ _ _ (by exact h.apart)), h.row.set1 hi y, ⟨D, by rw [hl]; exact hM.keptBy (Below.heap_setCell _ _ _ _ (by exact h.mb_ne.2)), ⟨fun j hj => ?_, fun id hn => ?_⟩, by rw [hl]; exact hS⟩, h.apart, by rw [hl]; exact h.small, fun j hj => ?_, fun j hj => ?_⟩
  · rw [hr j]; exact hP.at_ j (by rw [← hl]; exact hj)
  · exact hP.no id fun j hj x => hn j (by rw [hl]; exact hj) (by rw [hr j, x])
  · rw [hr j]; exact h.ids j (by rw [← hl]; exact hj)
  · unfold rky
    rw [getD_set _ _ _ _ hi]
    by_cases e : j = i
    · rw [if_pos e]; exact hy
    · rw [if_neg e]; exact h.keys j (by rw [← hl]; exact hj)

end Go.Proofs.Ytcipilggddpnpaa
