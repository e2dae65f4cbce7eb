/-
  The reference's row behind a Put or a Drop: as a list.
-/
import Derived.Test.YtcipilggddpnpaaRfD
namespace Go.Proofs.Ytcipilggddpnpaa
open Go.RowKit Go.Sort
set_option linter.unusedVariables false
set_option linter.unusedSimpArgs false

theorem layR_perm (k : Ent) : ∀ L, (layR k L).Perm (k :: L)
  | [] => List.Perm.refl _
  | x :: r => by
    rw [layR]
    split
    · exact ((layR_perm k r).cons x).trans (List.Perm.swap _ _ _)
    · exact List.Perm.refl _
theorem layR_sorted (k : Ent) : ∀ {L}, Sorted L → (∀ x ∈ L, x.1 ≠ k.1) → Sorted (layR k L)
  | [], _, _ => List.pairwise_singleton _ _
  | x :: r, h, hd => by
    rw [layR]
    have h1 := List.pairwise_cons.1 h
    split
    next ha =>
      refine List.pairwise_cons.2 ⟨fun z hz => ?_, layR_sorted k h1.2 (fun z hz => hd z (List.mem_cons_of_mem _ hz))⟩
      rcases List.mem_cons.1 ((layR_perm k r).mem_iff.1 hz) with rfl | hz
      · exact ha
      · exact h1.1 z hz
    next ha =>
      have hkx : ah k x = true := by
        rcases ah_total (hd x (by simp)) with e | e
        · exact absurd e ha
        · exact e
      refine List.pairwise_cons.2 ⟨fun z hz => ?_, h⟩
      rcases List.mem_cons.1 hz with rfl | hz
      · exact hkx
      · exact ah_weak.tr hkx (h1.1 z hz)
theorem layR_diff (k : Ent) {L : List Ent} (h : Diff L) (hd : ∀ x ∈ L, x.1 ≠ k.1) : Diff (layR k L) :=
  ((layR_perm k L).pairwise_iff (R := fun a b : Ent => a.1 ≠ b.1) (fun {a b} (h : a.1 ≠ b.1) => h.symm)).2 (List.pairwise_cons.2 ⟨fun x hx => (hd x hx).symm, h⟩)
theorem layR_len (k : Ent) (L : List Ent) : (layR k L).length = L.length + 1 := by rw [(layR_perm k L).length_eq]; rfl
theorem erase_perm : ∀ {L : List Ent} {i : Nat}, i < L.length → (L.getD i (0, 0) :: L.eraseIdx i).Perm L
  | x :: r, 0, _ => List.Perm.refl _
  | x :: r, i + 1, h => by
    simp only [List.eraseIdx_cons_succ, List.getD_cons_succ]
    exact (List.Perm.swap _ _ _).trans ((erase_perm (L := r) (by simpa using h)).cons x)
theorem erase_is {L : List Ent} {i : Nat} (hi : i < L.length) : (L.erase (L.getD i (0, 0))).Perm (L.eraseIdx i) :=
  List.Perm.cons_inv ((List.perm_cons_erase (mem_getD hi)).symm.trans (erase_perm hi).symm)
theorem erase_ids {L : List Ent} (h : Diff L) {i : Nat} (hi : i < L.length) : ∀ x ∈ L.eraseIdx i, x.1 ≠ rid L i := by
  have h1 : Diff (L.getD i (0, 0) :: L.eraseIdx i) := ((erase_perm hi).pairwise_iff (R := fun a b : Ent => a.1 ≠ b.1) (fun {a b} (h : a.1 ≠ b.1) => h.symm)).2 h
  intro x hx e
  exact (List.pairwise_cons.1 h1).1 x hx e.symm

end Go.Proofs.Ytcipilggddpnpaa
