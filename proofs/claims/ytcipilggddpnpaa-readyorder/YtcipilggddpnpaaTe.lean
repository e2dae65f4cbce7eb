/-
  timers.Queue: fire.
-/
import Derived.Test.YtcipilggddpnpaaTd
import Derived.IntWalk
import Derived.Deep.QuietTactic
import Derived.BigQuiet
import Derived.Deep.Cut
namespace Go.Proofs.Ytcipilggddpnpaa
open Go.RowKit Go.Shelf Go.Maps
set_option linter.unusedVariables false
set_option linter.unusedSimpArgs false

theorem timeE_may5 {t : Int} (h : timeE t = 0) : 0 ≤ t ∧ t < 1099511627776 := by
  by_cases hh : t < 0 ∨ 1099511627776 ≤ t
  · exact absurd h (timeE_ne hh)
  · omega
/-- What was taken away, in order, and what is left. -/
structure DueI (now o : Int) (L D Lc : List Ent) (o' : Int) : Prop where
  perm : L.Perm (D ++ Lc)
  sorted : Sorted D
  ahead : ∀ x ∈ D, ∀ y ∈ Lc, ah x y = true
  early : ∀ x ∈ D, x.2 ≤ now
  worst : o' = D.foldl (fun m x => max m (now - x.2)) o
theorem DueI.start (now o : Int) (L : List Ent) : DueI now o L [] L o := ⟨List.Perm.refl _, List.Pairwise.nil, (fun x hx => by cases hx), (fun x hx => by cases hx), rfl⟩
theorem nodup_of_diff {L : List Ent} (hd : L.Pairwise (fun x y => x.1 ≠ y.1)) : L.Nodup := hd.imp (fun h e => h (by rw [e]))
theorem DueI.step {now o : Int} {L D Lc : List Ent} {o' i1 a1 : Int} (h : DueI now o L D Lc o') (hd : Lc.Pairwise (fun x y => x.1 ≠ y.1)) (hf : IsFirst Lc (i1, a1)) (ha : a1 ≤ now) : DueI now o L (D ++ [(i1, a1)]) (Lc.erase (i1, a1)) (max o' (now - a1)) := by
  refine ⟨?_, ?_, ?_, ?_, ?_⟩
  · have p1 : Lc.Perm ((i1, a1) :: Lc.erase (i1, a1)) := List.perm_cons_erase hf.1
    rw [List.append_assoc]
    exact h.perm.trans (p1.append_left D)
  · exact List.pairwise_append.2 ⟨h.sorted, List.pairwise_singleton _ _, fun x hx y hy => by
      obtain rfl := List.mem_singleton.1 hy
      exact h.ahead x hx _ hf.1⟩
  · intro x hx y hy
    have hy' := List.mem_of_mem_erase hy
    rcases List.mem_append.1 hx with hx | hx
    · exact h.ahead x hx y hy'
    · obtain rfl := List.mem_singleton.1 hx
      exact hf.2 y hy' (fun e => (List.Nodup.not_mem_erase (nodup_of_diff hd)) (e ▸ hy))
  · intro x hx
    rcases List.mem_append.1 hx with hx | hx
    · exact h.early x hx
    · obtain rfl := List.mem_singleton.1 hx
      exact ha
  · rw [List.foldl_append, ← h.worst]
    rfl

theorem has_first : ∀ {L : List Ent}, L ≠ [] → L.Pairwise (fun x y => x.1 ≠ y.1) → ∃ x, IsFirst L x
  | [], h, _ => absurd rfl h
  | [x], _, _ => ⟨x, List.mem_singleton.2 rfl, fun y hy hne => absurd (List.mem_singleton.1 hy) hne⟩
  | x :: z :: r, _, hd => by
    obtain ⟨hx, hr⟩ := List.pairwise_cons.1 hd
    obtain ⟨y, hy, hm⟩ := has_first (L := z :: r) (by simp) hr
    rcases ah_total (hx y hy) with e | e
    · refine ⟨x, List.mem_cons_self, fun u hu hne => ?_⟩
      rcases List.mem_cons.1 hu with rfl | hu
      · exact absurd rfl hne
      · by_cases huy : u = y
        · subst huy; exact e
        · have e2 := hm u hu huy
          rw [ah_eq] at e e2 ⊢
          simp only [decide_eq_true_eq] at e e2 ⊢
          omega
    · refine ⟨y, List.mem_cons_of_mem _ hy, fun u hu hne => ?_⟩
      rcases List.mem_cons.1 hu with rfl | hu
      · exact e
      · exact hm u hu hne

/-- What First tells of them. -/
def Fst (L : List Ent) (a1 i1 e1 : Int) : Prop := (e1 = 0 ∧ IsFirst L (i1, a1)) ∨ (e1 = 14 ∧ L = [])
theorem qfirst_gen {B : Nat} {W : World} {q : QB} {L : List Ent} (h : Qs B W q L) (hd : L.Pairwise (fun x y => x.1 ≠ y.1)) :
    ∃ a1 i1 e1, Fst L a1 i1 e1 ∧ Calls Try.prog 28 #[.pointer (some ⟨q.qb, 0, none⟩)] W fun E w' => E = .returned (.tuple #[.agg #[.int .i64 a1, .int .i64 i1], .int .i64 e1]) ∧ Grew W w' := by
  by_cases hL : L = []
  · subst hL
    exact ⟨0, 0, 14, .inr ⟨rfl, rfl⟩, qfirst_nil h⟩
  · obtain ⟨x, hx⟩ := has_first hL hd
    exact ⟨x.2, x.1, 0, .inl ⟨rfl, hx⟩, qfirst_any h x hx⟩

end Go.Proofs.Ytcipilggddpnpaa
