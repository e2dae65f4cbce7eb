/-
  What the sorted row of a heap of ints is like: strictly rising where the numbers are all different.
-/
import Derived.Test.YtdmdebelcklfhaaSxM
namespace Go.Proofs.Ytdmdebelcklfhaa
open Go.RowKit Go.Sort Go.Shelf Go.Maps
set_option linter.unusedVariables false

theorem ahd_total {a b : Ent} (h1 : ahd ltI a b = false) (h2 : ahd ltI b a = false) : a = b := by
  rw [ahd_eq] at h1 h2
  unfold ltI at h1 h2
  obtain ⟨i, x⟩ := a
  obtain ⟨j, y⟩ := b
  simp only [Bool.or_eq_false_iff, Bool.and_eq_false_iff, Bool.not_eq_false', decide_eq_false_iff_not, decide_eq_true_eq] at h1 h2
  have e1 : x = y := by omega
  have e2 : i = j := by omega
  rw [e1, e2]

theorem ids_differ {S : List Ent} (hd : (S.map (·.1)).Nodup) {i j : Nat} (hi : i < S.length) (hj : j < S.length) (hij : i ≠ j) : (S.getD i (0, 0)).1 ≠ (S.getD j (0, 0)).1 := by
  intro e
  rw [List.getD_eq_getElem?_getD, List.getD_eq_getElem?_getD, List.getElem?_eq_getElem hi, List.getElem?_eq_getElem hj] at e
  simp only [Option.getD_some] at e
  apply hij
  have h1 : i < (S.map (·.1)).length := by simpa using hi
  have h2 : j < (S.map (·.1)).length := by simpa using hj
  exact (List.getElem_inj (h₀ := h1) (h₁ := h2) hd).1 (by simpa using e)

theorem sortE_strict (hW : Hp.Weak ltI) (R : List Ent) (hd : (R.map (·.1)).Nodup) {i j : Nat} (hij : i < j) (hj : j < R.length) : ahd ltI ((sortE ltI R).getD i (0, 0)) ((sortE ltI R).getD j (0, 0)) = true := by
  have hp := sortE_perm hW R
  have hl := sortE_len hW R
  have h1 := sortE_rises hW R i j hij hj
  have hd2 : ((sortE ltI R).map (·.1)).Nodup := (hp.map _).nodup_iff.2 hd
  cases e : ahd ltI ((sortE ltI R).getD i (0, 0)) ((sortE ltI R).getD j (0, 0))
  · have := ahd_total e h1
    exact absurd (congrArg Prod.fst this) (ids_differ hd2 (by omega) (by omega) (by omega))
  · rfl

/-- Who is in the sorted row is in the row. -/
theorem sortE_mem {lt : Int → Int → Bool} (hW : Hp.Weak lt) (R : List Ent) (x : Ent) : x ∈ sortE lt R ↔ x ∈ R := (sortE_perm hW R).mem_iff
end Go.Proofs.Ytdmdebelcklfhaa
