/-
  Drop, Get and All over the heap as a state (Hs).
-/
import Derived.Test.YtdmdebelcklfhaaSxN
namespace Go.Proofs.Ytdmdebelcklfhaa
open Go.RowKit Go.Sort Go.Shelf Go.Maps
set_option linter.unusedVariables false

theorem hs_drop {B : Nat} {w : World} {hb mb : Nat} {ro : Option Nat} {C : List Ent} (h : Hs B w hb mb ro C) (m : Ent) (hm : m ∈ C) :
    Calls Try.prog 21 #[.pointer (some ⟨hb, 0, none⟩), .int .i64 m.1] w fun e w' => e = .returned (.tuple #[.int .i64 m.2, .int .i64 0]) ∧ Left B w w' hb mb ro ro (C.erase m) := by
  obtain ⟨R, h1, h2, h3, h4⟩ := h
  obtain ⟨i, hi, he⟩ := getD_mem (h1.mem_iff.2 hm)
  obtain ⟨rb, cap, rfl, hh⟩ := h3.row (by omega)
  have i1 : rid R i = m.1 := by unfold rid; rw [he]
  have i2 : rky R i = m.2 := by unfold rky; rw [he]
  have hc := drop_there _ _ ltI less_is ltI_weak w hb mb rb cap R hh h2 i hi
  rw [i1, i2] at hc
  refine hc.mono ?_
  rintro e w' ⟨rfl, R', p1, p2, p3, p4⟩
  refine ⟨rfl, ⟨R', ?_, p2, .inr ⟨rb, cap, rfl, p3⟩, h4⟩, p4, fun b e => .inl e⟩
  rw [he] at p1
  exact List.Perm.cons_inv ((p1.trans h1).trans (List.perm_cons_erase hm))

theorem hs_get_none {B : Nat} {w : World} {hb mb : Nat} {ro : Option Nat} {C : List Ent} (h : Hs B w hb mb ro C) (id : Int) (hid : Is64 id) (hn : ∀ x ∈ C, x.1 ≠ id) :
    Calls Try.prog 19 #[.pointer (some ⟨hb, 0, none⟩), .int .i64 id] w fun e w' => e = .returned (.tuple #[.int .i64 0, .int .i64 14]) ∧ w = w' := by
  obtain ⟨R, h1, h2, h3, h4⟩ := h
  exact get_none w hb mb ro lessV R h3 id hid (fun i hi x => hn _ (h1.mem_iff.1 (mem_getD hi)) x)

/-- All: the entries, each once, strictly rising; all else as it was. -/
theorem hs_all {B : Nat} {w : World} {hb mb : Nat} {ro : Option Nat} {C : List Ent} (h : Hs B w hb mb ro C) (hd : (C.map (·.1)).Nodup) :
    Calls Try.prog 18 #[.pointer (some ⟨hb, 0, none⟩)] w fun e w' => ∃ S, e = .returned (.func (.func 53) #[] #[.pointer (some ⟨w.heap.size, 0, none⟩)]) ∧ S.Perm C ∧ (∀ i j, i < j → j < S.length → ah (S.getD i (0, 0)) (S.getD j (0, 0)) = true) ∧ SeqAt w.heap.size w.heap.size S w' ∧ Kept (fun _ => False) w w' := by
  obtain ⟨R, h1, h2, h3, h4⟩ := h
  refine (all_any _ _ ltI less_is ltI_weak hb mb ro R w h3).mono ?_
  rintro e w' ⟨rfl, p1, p2⟩
  exact ⟨sortE ltI R, rfl, (sortE_perm ltI_weak R).trans h1, fun i j hij hj => sortE_strict ltI_weak R ((h1.map _).nodup_iff.2 hd) hij (by rw [← sortE_len ltI_weak R]; exact hj), p1, p2⟩
end Go.Proofs.Ytdmdebelcklfhaa
