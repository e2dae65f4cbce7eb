/-
  The rest of the calls over the heap as a state (Hs): Get, Peek, Change, Drop and Take where there is none.
-/
import Derived.Test.YtdmdebelcklfhaaSxO
namespace Go.Proofs.Ytdmdebelcklfhaa
open Go.RowKit Go.Sort Go.Shelf Go.Maps
set_option linter.unusedVariables false

theorem hs_get {B : Nat} {w : World} {hb mb : Nat} {ro : Option Nat} {C : List Ent} (h : Hs B w hb mb ro C) (m : Ent) (hm : m ∈ C) :
    Calls Try.prog 19 #[.pointer (some ⟨hb, 0, none⟩), .int .i64 m.1] w fun e w' => e = .returned (.tuple #[.int .i64 m.2, .int .i64 0]) ∧ w = w' := by
  obtain ⟨R, h1, h2, h3, h4⟩ := h
  obtain ⟨i, hi, he⟩ := getD_mem (h1.mem_iff.2 hm)
  obtain ⟨rb, cap, rfl, hh⟩ := h3.row (by omega)
  have i1 : rid R i = m.1 := by unfold rid; rw [he]
  have i2 : rky R i = m.2 := by unfold rky; rw [he]
  have hc := get_there w hb mb rb cap lessV R hh i hi
  rwa [i1, i2] at hc

theorem hs_peek_nil {B : Nat} {w : World} {hb mb : Nat} {ro : Option Nat} (h : Hs B w hb mb ro []) :
    Calls Try.prog 49 #[.pointer (some ⟨hb, 0, none⟩)] w fun e w' => e = .returned (.tuple #[.int .i64 0, .int .i64 0, .int .i64 14]) ∧ Grew w w' := by
  obtain ⟨R, h1, h2, h3, h4⟩ := h
  exact peek_none w hb mb ro lessV R h3 h1.length_eq

theorem hs_peek {B : Nat} {w : World} {hb mb : Nat} {ro : Option Nat} {C : List Ent} (h : Hs B w hb mb ro C) (m : Ent) (hm : m ∈ C) (hmin : ∀ y ∈ C, y ≠ m → ah m y = true) :
    Calls Try.prog 49 #[.pointer (some ⟨hb, 0, none⟩)] w fun e w' => e = .returned (.tuple #[.int .i64 m.1, .int .i64 m.2, .int .i64 0]) ∧ Grew w w' := by
  obtain ⟨R, h1, h2, h3, h4⟩ := h
  obtain ⟨h0, he⟩ := Hs.first (w := w) (hb := hb) (mb := mb) (ro := ro) h1 h2 hm hmin
  obtain ⟨rb, cap, rfl, hh⟩ := h3.row h0
  have i1 : rid R 0 = m.1 := by unfold rid; rw [he]
  have i2 : rky R 0 = m.2 := by unfold rky; rw [he]
  have hc := peek_some w hb mb rb cap lessV R hh h0
  rwa [i1, i2] at hc

theorem hs_drop_none {B : Nat} {w : World} {hb mb : Nat} {ro : Option Nat} {C : List Ent} (h : Hs B w hb mb ro C) (id : Int) (hid : Is64 id) (hn : ∀ x ∈ C, x.1 ≠ id) :
    Calls Try.prog 21 #[.pointer (some ⟨hb, 0, none⟩), .int .i64 id] w fun e w' => e = .returned (.tuple #[.int .i64 0, .int .i64 14]) ∧ w = w' := by
  obtain ⟨R, h1, h2, h3, h4⟩ := h
  exact drop_none w hb mb ro lessV R h3 id hid (fun i hi x => hn _ (h1.mem_iff.1 (mem_getD hi)) x)

theorem hs_change_none {B : Nat} {w : World} {hb mb : Nat} {ro : Option Nat} {C : List Ent} (h : Hs B w hb mb ro C) (id k : Int) (hid : Is64 id) (hn : ∀ x ∈ C, x.1 ≠ id) :
    Calls Try.prog 20 #[.pointer (some ⟨hb, 0, none⟩), .int .i64 id, .int .i64 k] w fun e w' => e = .returned (.int .i64 14) ∧ w = w' := by
  obtain ⟨R, h1, h2, h3, h4⟩ := h
  exact change_none w hb mb ro lessV R h3 id k hid (fun i hi x => hn _ (h1.mem_iff.1 (mem_getD hi)) x)

theorem perm_set : ∀ (R : List Ent) (i : Nat) (y : Ent), i < R.length → (R.getD i (0, 0) :: R.set i y).Perm (y :: R)
  | x :: r, 0, y, _ => by
    simp only [List.set_cons_zero, List.getD_cons_zero]
    exact List.Perm.swap _ _ _
  | x :: r, i + 1, y, h => by
    simp only [List.set_cons_succ, List.getD_cons_succ]
    have ih := perm_set r i y (by simpa using h)
    exact ((List.Perm.swap _ _ _).trans (ih.cons x)).trans (List.Perm.swap _ _ _)

theorem hs_change {B : Nat} {w : World} {hb mb : Nat} {ro : Option Nat} {C : List Ent} (h : Hs B w hb mb ro C) (m : Ent) (hm : m ∈ C) (y : Int) (hy : Is64 y) :
    Calls Try.prog 20 #[.pointer (some ⟨hb, 0, none⟩), .int .i64 m.1, .int .i64 y] w fun e w' => e = .returned (.int .i64 0) ∧ Left B w w' hb mb ro ro ((m.1, y) :: C.erase m) := by
  obtain ⟨R, h1, h2, h3, h4⟩ := h
  obtain ⟨i, hi, he⟩ := getD_mem (h1.mem_iff.2 hm)
  obtain ⟨rb, cap, rfl, hh⟩ := h3.row (by omega)
  have i1 : rid R i = m.1 := by unfold rid; rw [he]
  have hc := change_there _ _ ltI less_is ltI_weak w hb mb rb cap R hh h2 i hi y hy
  rw [i1] at hc
  refine hc.mono ?_
  rintro e w' ⟨rfl, R', p1, p2, p3, p4⟩
  refine ⟨rfl, ⟨R', p1.trans ?_, p2, .inr ⟨rb, cap, rfl, p3⟩, h4⟩, p4, fun b e => .inl e⟩
  have hp := perm_set R i (m.1, y) hi
  rw [he] at hp
  have h5 : (m :: (m.1, y) :: C.erase m).Perm ((m.1, y) :: R) := (List.Perm.swap _ _ _).trans ((List.perm_cons_erase hm).symm.cons _ |>.trans (h1.symm.cons _))
  exact List.Perm.cons_inv (hp.trans h5.symm)
end Go.Proofs.Ytdmdebelcklfhaa
