/-
  Heaps of keys whose numbers are the keys' own: All over the heap as a state, in order.
-/
import Derived.Test.YtcipilggddpnpaaSkM
import Derived.Test.YtcipilggddpnpaaKhK
namespace Go.Proofs.Ytcipilggddpnpaa
open Go.RowKit Go.Sort Go.Shelf Go.Maps
set_option linter.unusedVariables false
set_option linter.unusedSimpArgs false

/-- A number with its time, as an entry of a heap of keys. -/
def kN (x : Ent) : K.Ent := (x.1, x.2, x.1)
theorem kN_inj {x y : Ent} (h : kN x = kN y) : x = y := by
  obtain ⟨a, b⟩ := x
  obtain ⟨c, d⟩ := y
  simp only [kN, Prod.mk.injEq] at h
  rw [h.1, h.2.1]
theorem ahd_up (x y : Ent) : K.ahd K.ltK (kN x) (kN y) = ah x y := by
  rw [K.ahd_eq]
  show (ah (x.1, x.2) (y.1, y.2) || (!ah (y.1, y.2) (x.1, x.2) && decide (x.1 < y.1))) = ah x y
  have e1 : ah (x.1, x.2) (y.1, y.2) = ah x y := rfl
  have e2 : ah (y.1, y.2) (x.1, x.2) = ah y x := rfl
  rw [e1, e2, ah_eq, ah_eq]
  by_cases h1 : x.2 < y.2 ∨ x.2 = y.2 ∧ x.1 < y.1
  · simp [h1]
  · by_cases h2 : y.2 < x.2 ∨ y.2 = x.2 ∧ y.1 < x.1
    · simp [h1, h2]
    · simp only [h1, h2, decide_false, Bool.not_false, Bool.true_and, Bool.false_or]
      exact decide_eq_false (by omega)
theorem ahd_down (x y : Ent) : K.ahd K.ltD (kN x) (kN y) = ah y x := by
  rw [K.ahd_eq]
  show (ah (y.1, y.2) (x.1, x.2) || (!ah (x.1, x.2) (y.1, y.2) && decide (x.1 < y.1))) = ah y x
  have e1 : ah (x.1, x.2) (y.1, y.2) = ah x y := rfl
  have e2 : ah (y.1, y.2) (x.1, x.2) = ah y x := rfl
  rw [e1, e2, ah_eq, ah_eq]
  by_cases h1 : x.2 < y.2 ∨ x.2 = y.2 ∧ x.1 < y.1
  · by_cases h2 : y.2 < x.2 ∨ y.2 = x.2 ∧ y.1 < x.1
    · simp [h1, h2]
    · simp [h1, h2]
  · by_cases h2 : y.2 < x.2 ∨ y.2 = x.2 ∧ y.1 < x.1
    · simp [h1, h2]
    · simp only [h1, h2, decide_false, Bool.not_false, Bool.true_and, Bool.false_or]
      exact decide_eq_false (by omega)

theorem unmap {S : List K.Ent} {L : List Ent} (h : S.Perm (L.map kN)) : ∃ T : List Ent, S = T.map kN ∧ T.Perm L := by
  refine ⟨S.map (fun e => (e.1, e.2.1)), ?_, ?_⟩
  · rw [List.map_map]
    have : ∀ e ∈ S, (kN ∘ fun e : K.Ent => (e.1, e.2.1)) e = e := fun e he => by
      obtain ⟨x, _, rfl⟩ := List.mem_map.1 (h.mem_iff.1 he)
      rfl
    rw [List.map_congr_left this, List.map_id'']
    exact fun _ => rfl
  · have := h.map (fun e : K.Ent => (e.1, e.2.1))
    rw [List.map_map] at this
    have e : L.map ((fun e : K.Ent => (e.1, e.2.1)) ∘ kN) = L := by
      have : ∀ x ∈ L, ((fun e : K.Ent => (e.1, e.2.1)) ∘ kN) x = x := fun _ _ => rfl
      rw [List.map_congr_left this, List.map_id'']
      exact fun _ => rfl
    rwa [e] at this

theorem getD_kN (T : List Ent) (i : Nat) : (T.map kN).getD i (0, 0, 0) = kN (T.getD i (0, 0)) := by
  rw [List.getD_eq_getElem?_getD, List.getD_eq_getElem?_getD, List.getElem?_map]
  cases T[i]? <;> rfl

/-- The numbers are all different: what rises rises strictly. -/
theorem strictly {T : List Ent} (hd : T.Pairwise (fun x y => x.1 ≠ y.1)) (h : ∀ i j, i < j → j < T.length → ah (T.getD j (0, 0)) (T.getD i (0, 0)) = false) : Sorted T := by
  refine List.pairwise_iff_getElem.2 fun i j hi hj hij => ?_
  have h1 := h i j hij hj
  rw [List.getD_eq_getElem?_getD, List.getD_eq_getElem?_getD, List.getElem?_eq_getElem hi, List.getElem?_eq_getElem hj] at h1
  have hne := List.pairwise_iff_getElem.1 hd i j hi hj hij
  rcases ah_total hne with h' | h'
  · exact h'
  · simp only [Option.getD_some] at h1
    rw [h1] at h'
    cases h'

namespace K
/-- All, in whatever order: the entries, each once, none ahead of one before it; all else as it was. -/
theorem hs_all {fv : Value} {lt : Ky → Ky → Bool} {B : Nat} {w : World} {hb mb : Nat} {ro : Option Nat} {C : List Ent} (h : Hs fv lt B w hb mb ro C) :
    Calls Try.prog 51 #[.pointer (some ⟨hb, 0, none⟩)] w fun e w' => ∃ S, e = .returned (.func (.func 77) #[] #[.pointer (some ⟨w.heap.size, 0, none⟩)]) ∧ S.Perm C ∧ (∀ i j, i < j → j < S.length → ahd lt (S.getD j (0, 0, 0)) (S.getD i (0, 0, 0)) = false) ∧ SeqAt w.heap.size w.heap.size S w' ∧ Kept (fun _ => False) w w' := by
  obtain ⟨⟨R, h1, h2, h3⟩, h4, h5⟩ := h
  have hW := h5.weak
  obtain ⟨g, cb, e0, hl⟩ := h5.less h3 (fun _ => False) (fun _ x => x.elim)
  subst e0
  refine (all_any g cb lt w hl hW hb mb ro R h3).mono ?_
  rintro e w' ⟨rfl, p1, p2⟩
  exact ⟨sortE lt R, rfl, (sortE_perm hW R).trans h1, fun i j hij hj => sortE_rises hW R i j hij (by rw [← sortE_len hW R]; exact hj), p1, p2⟩
end K

/-- All of a heap that rises: in order. -/
theorem up_all {B : Nat} {w : World} {hb mb : Nat} {ro : Option Nat} {L : List Ent} (h : K.Hs K.upV K.ltK B w hb mb ro (L.map kN)) (hd : L.Pairwise (fun x y => x.1 ≠ y.1)) (hs : Sorted L) :
    Calls Try.prog 51 #[.pointer (some ⟨hb, 0, none⟩)] w fun e w' => e = .returned (.func (.func 77) #[] #[.pointer (some ⟨w.heap.size, 0, none⟩)]) ∧ K.SeqAt w.heap.size w.heap.size (L.map kN) w' ∧ Kept (fun _ => False) w w' := by
  refine (K.hs_all h).mono ?_
  rintro e w' ⟨S, rfl, h1, h2, h3, h4⟩
  obtain ⟨T, rfl, hT⟩ := unmap h1
  have hd2 : T.Pairwise (fun x y => x.1 ≠ y.1) := (List.Perm.pairwise_iff (R := fun x y : Ent => x.1 ≠ y.1) (fun h => h.symm) hT).2 hd
  have hsT : Sorted T := strictly hd2 (fun i j hij hj => by
    have := h2 i j hij (by simpa using hj)
    rw [getD_kN, getD_kN, ahd_up] at this
    exact this)
  obtain rfl : T = L := sorted_eq hT hsT hs
  exact ⟨rfl, h3, h4⟩
end Go.Proofs.Ytcipilggddpnpaa
