/-
  Heap[int]: what the sorted row is like; Drop, Get, All, Peek, Change over the heap as a state.
-/
import Derived.Test.YtcipilggddpnpaaSxL
/-! What the sorted row of a heap of ints is like: strictly rising where the numbers are all different. -/
namespace Go.Proofs.Ytcipilggddpnpaa
open Go.RowKit Go.Sort Go.Shelf Go.Maps
set_option linter.unusedVariables false

theorem ahd_total {a b : Ent} (h1 : ahd ltI a b = false) (h2 : ahd ltI b a = false) : a = b := by
  rw [ahd_eq] at h1 h2
  unfold ltI at h1 h2
  obtain ⟨i, x⟩ := a
  obtain ⟨j, y⟩ := b
  simp only [Bool.or_eq_false_iff, Bool.and_eq_false_iff, Bool.not_eq_false', decide_eq_false_iff_not, decide_eq_true_eq] at h1 h2
  have e1 : x = y := by omega
  have e2 : i = j := by omega
  rw [e1, e2]

theorem ids_differ {S : List Ent} (hd : (S.map (·.1)).Nodup) {i j : Nat} (hi : i < S.length) (hj : j < S.length) (hij : i ≠ j) : (S.getD i (0, 0)).1 ≠ (S.getD j (0, 0)).1 := by
  intro e
  rw [List.getD_eq_getElem?_getD, List.getD_eq_getElem?_getD, List.getElem?_eq_getElem hi, List.getElem?_eq_getElem hj] at e
  simp only [Option.getD_some] at e
  apply hij
  have h1 : i < (S.map (·.1)).length := by simpa using hi
  have h2 : j < (S.map (·.1)).length := by simpa using hj
  exact (List.getElem_inj (h₀ := h1) (h₁ := h2) hd).1 (by simpa using e)

theorem sortE_strict (hW : Hp.Weak ltI) (R : List Ent) (hd : (R.map (·.1)).Nodup) {i j : Nat} (hij : i < j) (hj : j < R.length) : ahd ltI ((sortE ltI R).getD i (0, 0)) ((sortE ltI R).getD j (0, 0)) = true := by
  have hp := sortE_perm hW R
  have hl := sortE_len hW R
  have h1 := sortE_rises hW R i j hij hj
  have hd2 : ((sortE ltI R).map (·.1)).Nodup := (hp.map _).nodup_iff.2 hd
  cases e : ahd ltI ((sortE ltI R).getD i (0, 0)) ((sortE ltI R).getD j (0, 0))
  · have := ahd_total e h1
    exact absurd (congrArg Prod.fst this) (ids_differ hd2 (by omega) (by omega) (by omega))
  · rfl

/-- Who is in the sorted row is in the row. -/
theorem sortE_mem {lt : Int → Int → Bool} (hW : Hp.Weak lt) (R : List Ent) (x : Ent) : x ∈ sortE lt R ↔ x ∈ R := (sortE_perm hW R).mem_iff
end Go.Proofs.Ytcipilggddpnpaa

/-! Drop, Get and All over the heap as a state (Hs). -/
namespace Go.Proofs.Ytcipilggddpnpaa
open Go.RowKit Go.Sort Go.Shelf Go.Maps
set_option linter.unusedVariables false

theorem hs_drop {B : Nat} {w : World} {hb mb : Nat} {ro : Option Nat} {C : List Ent} (h : Hs B w hb mb ro C) (m : Ent) (hm : m ∈ C) :
    Calls Try.prog 11 #[.pointer (some ⟨hb, 0, none⟩), .int .i64 m.1] w fun e w' => e = .returned (.tuple #[.int .i64 m.2, .int .i64 0]) ∧ Left B w w' hb mb ro ro (C.erase m) := by
  obtain ⟨R, h1, h2, h3, h4⟩ := h
  obtain ⟨i, hi, he⟩ := getD_mem (h1.mem_iff.2 hm)
  obtain ⟨rb, cap, rfl, hh⟩ := h3.row (by omega)
  have i1 : rid R i = m.1 := by unfold rid; rw [he]
  have i2 : rky R i = m.2 := by unfold rky; rw [he]
  have hc := drop_there _ _ ltI less_is ltI_weak w hb mb rb cap R hh h2 i hi
  rw [i1, i2] at hc
  refine hc.mono ?_
  rintro e w' ⟨rfl, R', p1, p2, p3, p4⟩
  refine ⟨rfl, ⟨R', ?_, p2, .inr ⟨rb, cap, rfl, p3⟩, h4⟩, p4, fun b e => .inl e⟩
  rw [he] at p1
  exact List.Perm.cons_inv ((p1.trans h1).trans (List.perm_cons_erase hm))

theorem hs_get_none {B : Nat} {w : World} {hb mb : Nat} {ro : Option Nat} {C : List Ent} (h : Hs B w hb mb ro C) (id : Int) (hid : Is64 id) (hn : ∀ x ∈ C, x.1 ≠ id) :
    Calls Try.prog 12 #[.pointer (some ⟨hb, 0, none⟩), .int .i64 id] w fun e w' => e = .returned (.tuple #[.int .i64 0, .int .i64 14]) ∧ w = w' := by
  obtain ⟨R, h1, h2, h3, h4⟩ := h
  exact get_none w hb mb ro lessV R h3 id hid (fun i hi x => hn _ (h1.mem_iff.1 (mem_getD hi)) x)

/-- All: the entries, each once, strictly rising; all else as it was. -/
theorem hs_all {B : Nat} {w : World} {hb mb : Nat} {ro : Option Nat} {C : List Ent} (h : Hs B w hb mb ro C) (hd : (C.map (·.1)).Nodup) :
    Calls Try.prog 14 #[.pointer (some ⟨hb, 0, none⟩)] w fun e w' => ∃ S, e = .returned (.func (.func 41) #[] #[.pointer (some ⟨w.heap.size, 0, none⟩)]) ∧ S.Perm C ∧ (∀ i j, i < j → j < S.length → ah (S.getD i (0, 0)) (S.getD j (0, 0)) = true) ∧ SeqAt w.heap.size w.heap.size S w' ∧ Kept (fun _ => False) w w' := by
  obtain ⟨R, h1, h2, h3, h4⟩ := h
  refine (all_any _ _ ltI less_is ltI_weak hb mb ro R w h3).mono ?_
  rintro e w' ⟨rfl, p1, p2⟩
  exact ⟨sortE ltI R, rfl, (sortE_perm ltI_weak R).trans h1, fun i j hij hj => sortE_strict ltI_weak R ((h1.map _).nodup_iff.2 hd) hij (by rw [← sortE_len ltI_weak R]; exact hj), p1, p2⟩
end Go.Proofs.Ytcipilggddpnpaa

/-! The rest of the calls over the heap as a state (Hs): Get, Peek, Change, Drop and Take where there is none. -/
namespace Go.Proofs.Ytcipilggddpnpaa
open Go.RowKit Go.Sort Go.Shelf Go.Maps
set_option linter.unusedVariables false

theorem hs_get {B : Nat} {w : World} {hb mb : Nat} {ro : Option Nat} {C : List Ent} (h : Hs B w hb mb ro C) (m : Ent) (hm : m ∈ C) :
    Calls Try.prog 12 #[.pointer (some ⟨hb, 0, none⟩), .int .i64 m.1] w fun e w' => e = .returned (.tuple #[.int .i64 m.2, .int .i64 0]) ∧ w = w' := by
  obtain ⟨R, h1, h2, h3, h4⟩ := h
  obtain ⟨i, hi, he⟩ := getD_mem (h1.mem_iff.2 hm)
  obtain ⟨rb, cap, rfl, hh⟩ := h3.row (by omega)
  have i1 : rid R i = m.1 := by unfold rid; rw [he]
  have i2 : rky R i = m.2 := by unfold rky; rw [he]
  have hc := get_there w hb mb rb cap lessV R hh i hi
  rwa [i1, i2] at hc

theorem hs_peek_nil {B : Nat} {w : World} {hb mb : Nat} {ro : Option Nat} (h : Hs B w hb mb ro []) :
    Calls Try.prog 60 #[.pointer (some ⟨hb, 0, none⟩)] w fun e w' => e = .returned (.tuple #[.int .i64 0, .int .i64 0, .int .i64 14]) ∧ Grew w w' := by
  obtain ⟨R, h1, h2, h3, h4⟩ := h
  exact peek_none w hb mb ro lessV R h3 h1.length_eq

theorem hs_peek {B : Nat} {w : World} {hb mb : Nat} {ro : Option Nat} {C : List Ent} (h : Hs B w hb mb ro C) (m : Ent) (hm : m ∈ C) (hmin : ∀ y ∈ C, y ≠ m → ah m y = true) :
    Calls Try.prog 60 #[.pointer (some ⟨hb, 0, none⟩)] w fun e w' => e = .returned (.tuple #[.int .i64 m.1, .int .i64 m.2, .int .i64 0]) ∧ Grew w w' := by
  obtain ⟨R, h1, h2, h3, h4⟩ := h
  obtain ⟨h0, he⟩ := Hs.first (w := w) (hb := hb) (mb := mb) (ro := ro) h1 h2 hm hmin
  obtain ⟨rb, cap, rfl, hh⟩ := h3.row h0
  have i1 : rid R 0 = m.1 := by unfold rid; rw [he]
  have i2 : rky R 0 = m.2 := by unfold rky; rw [he]
  have hc := peek_some w hb mb rb cap lessV R hh h0
  rwa [i1, i2] at hc

theorem hs_drop_none {B : Nat} {w : World} {hb mb : Nat} {ro : Option Nat} {C : List Ent} (h : Hs B w hb mb ro C) (id : Int) (hid : Is64 id) (hn : ∀ x ∈ C, x.1 ≠ id) :
    Calls Try.prog 11 #[.pointer (some ⟨hb, 0, none⟩), .int .i64 id] w fun e w' => e = .returned (.tuple #[.int .i64 0, .int .i64 14]) ∧ w = w' := by
  obtain ⟨R, h1, h2, h3, h4⟩ := h
  exact drop_none w hb mb ro lessV R h3 id hid (fun i hi x => hn _ (h1.mem_iff.1 (mem_getD hi)) x)

theorem perm_set : ∀ (R : List Ent) (i : Nat) (y : Ent), i < R.length → (R.getD i (0, 0) :: R.set i y).Perm (y :: R)
  | x :: r, 0, y, _ => by
    simp only [List.set_cons_zero, List.getD_cons_zero]
    exact List.Perm.swap _ _ _
  | x :: r, i + 1, y, h => by
    simp only [List.set_cons_succ, List.getD_cons_succ]
    have ih := perm_set r i y (by simpa using h)
    exact ((List.Perm.swap _ _ _).trans (ih.cons x)).trans (List.Perm.swap _ _ _)

end Go.Proofs.Ytcipilggddpnpaa
