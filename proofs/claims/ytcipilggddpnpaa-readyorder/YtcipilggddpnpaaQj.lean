/-
  Put, whatever the order and the parts: without the walk.
-/
import Derived.Test.YtcipilggddpnpaaQi
namespace Go.Proofs.Ytcipilggddpnpaa
open Go.RowKit Go.Sort Go.Shelf Go.Maps
set_option linter.unusedVariables false

theorem putR_zero {L : List Ent} {x : Ent} : putR L x = 0 ↔ (¬ x.1 < 0 ∧ timeE x.2 = 0) ∧ ∀ y ∈ L, y.1 ≠ x.1 := by
  unfold putR
  by_cases h1 : x.1 < 0
  · rw [if_pos h1]; exact ⟨fun h => by omega, fun h => absurd h1 h.1.1⟩
  rw [if_neg h1]
  by_cases h2 : timeE x.2 = 0
  · rw [if_neg (fun h => h h2)]
    by_cases h3 : L.any (fun y => y.1 == x.1) = true
    · rw [if_pos h3]
      obtain ⟨y, hy, e⟩ := List.any_eq_true.1 h3
      exact ⟨fun h => by omega, fun h => absurd (by simpa using e) (h.2 y hy)⟩
    · rw [if_neg h3]
      exact ⟨fun _ => ⟨⟨h1, h2⟩, fun y hy e => h3 (List.any_eq_true.2 ⟨y, hy, by simpa using e⟩)⟩, fun _ => rfl⟩
  · rw [if_pos h2]
    exact ⟨fun h => absurd h h2, fun h => absurd h.1.2 h2⟩

/-- All of l may be put. -/
def Good (l : List Ent) : Prop := (∀ x ∈ l, ¬ x.1 < 0 ∧ timeE x.2 = 0) ∧ l.Pairwise (fun x y => x.1 ≠ y.1)
theorem putsR_zero : ∀ (l L : List Ent), putsR L l = 0 ↔ Good l ∧ ∀ x ∈ l, ∀ y ∈ L, y.1 ≠ x.1
  | [], L => ⟨fun _ => ⟨⟨fun x hx => (by cases hx), List.Pairwise.nil⟩, fun x hx => (by cases hx)⟩, fun _ => rfl⟩
  | x :: r, L => by
    show (if putR L x = 0 then putsR (x :: L) r else putR L x) = 0 ↔ _
    by_cases h : putR L x = 0
    · rw [if_pos h, putsR_zero r (x :: L)]
      obtain ⟨h1, h2⟩ := putR_zero.1 h
      constructor
      · rintro ⟨⟨g1, g2⟩, g3⟩
        refine ⟨⟨fun y hy => ?_, List.pairwise_cons.2 ⟨fun y hy => g3 y hy x (List.mem_cons_self ..), g2⟩⟩, fun y hy z hz => ?_⟩
        · rcases List.mem_cons.1 hy with rfl | hy
          · exact h1
          · exact g1 y hy
        · rcases List.mem_cons.1 hy with rfl | hy
          · exact h2 z hz
          · exact g3 y hy z (List.mem_cons_of_mem _ hz)
      · rintro ⟨⟨g1, g2⟩, g3⟩
        obtain ⟨p1, p2⟩ := List.pairwise_cons.1 g2
        refine ⟨⟨fun y hy => g1 y (List.mem_cons_of_mem _ hy), p2⟩, fun y hy z hz => ?_⟩
        rcases List.mem_cons.1 hz with rfl | hz
        · exact p1 y hy
        · exact g3 y (List.mem_cons_of_mem _ hy) z hz
    · rw [if_neg h]
      refine ⟨fun e => absurd e h, fun e => absurd (putR_zero.2 ⟨e.1.1 x (List.mem_cons_self ..), fun y hy => e.2 x (List.mem_cons_self ..) y hy⟩) h⟩
theorem Good.perm {l m : List Ent} (hp : l.Perm m) (h : Good l) : Good m :=
  ⟨fun x hx => h.1 x (hp.mem_iff.2 hx), (List.Perm.pairwise_iff (R := fun x y : Ent => x.1 ≠ y.1) (fun h => h.symm) hp).1 h.2⟩
theorem good_puts {l : List Ent} : putsR [] l = 0 ↔ Good l := (putsR_zero l []).trans ⟨fun h => h.1, fun h => ⟨h, fun x _ y hy => (by cases hy)⟩⟩
theorem good_back {l : List Ent} : putsR [] l.reverse = 0 ↔ putsR [] l = 0 := good_puts.trans ((Iff.intro (fun h => h.perm (List.reverse_perm l)) (fun h => h.perm (List.reverse_perm l).symm)).trans good_puts.symm)
theorem good_parts {l : List Ent} (n : Nat) (h : putsR [] l = 0) : putsR [] (l.take n) = 0 ∧ putsR ((l.take n).reverse ++ []) (l.drop n) = 0 := by
  obtain ⟨h1, h2⟩ := good_puts.1 h
  have e : l.take n ++ l.drop n = l := List.take_append_drop n l
  rw [← e] at h2
  obtain ⟨p1, p2, p3⟩ := List.pairwise_append.1 h2
  refine ⟨good_puts.2 ⟨fun x hx => h1 x (List.mem_of_mem_take hx), p1⟩, (putsR_zero _ _).2 ⟨⟨fun x hx => h1 x (List.mem_of_mem_drop hx), p2⟩, fun x hx y hy => ?_⟩⟩
  rw [List.append_nil, List.mem_reverse] at hy
  exact p3 y hy x hx
/-- What is left, behind a drop. -/
theorem sorted_filter {T : List Ent} (h : Sorted T) (p : Ent → Bool) : Sorted (T.filter p) := List.Pairwise.filter p h
theorem len_filter {T : List Ent} (hd : T.Pairwise (fun x y => x.1 ≠ y.1)) {m : Ent} (hm : m ∈ T) : (T.filter (fun y => y.1 != m.1)).length + 1 = T.length := by
  rw [← (erase_filter hd hm).length_eq, List.length_erase_of_mem hm]
  have := List.length_pos_of_mem hm
  omega
end Go.Proofs.Ytcipilggddpnpaa
