/-
  The reference's timers: Due.
-/
import Derived.Test.YtcipilggddpnpaaTv
import Derived.IntWalk
import Derived.BigQuiet
import Derived.Deep.QuietTactic
import Derived.Deep.Cut
namespace Go.Proofs.Ytcipilggddpnpaa
open Go.RowKit Go.Shelf Go.Maps
set_option linter.unusedVariables false
set_option linter.unusedSimpArgs false

theorem flatR_take_at {S : List Ent} {n i : Nat} (hi : i < n) (hn : n ≤ S.length) : (flatR (S.take n))[i * 2]? = some (.int .i64 (S.getD i (0, 0)).2) ∧ (flatR (S.take n))[i * 2 + 1]? = some (.int .i64 (S.getD i (0, 0)).1) := by
  have h := flatR_get (S.take n) i (by rw [List.length_take]; omega)
  have e : (S.take n).getD i (0, 0) = S.getD i (0, 0) := by
    rw [List.getD_eq_getElem?_getD, List.getD_eq_getElem?_getD, List.getElem?_take, if_pos hi]
  unfold rky rid at h
  rw [e] at h
  exact h
/-- A slice of the reference's row, copied. -/
theorem slice_copied {w : World} {v : Value} {n : Nat} {S : List Ent} (h : SliceOf w v n S) (hl : S.length ≤ 1099511627776) :
    ∃ a c w', (Builtin.append_ #[46, 46] 46 #[.slice none 0 0, v]).run Try.prog w = .ok (.slice a n c) w' ∧ w'.ownsRow w.heap.size 37 2 (.slice a n c) n (flatR (S.take n)) ∧ w.grownBy w' none := by
  obtain ⟨i0, hi0, hz0, hz1, hz2⟩ := info_parts (P := Try.prog) (e := 37) (z := .agg #[.int .i64 0, .int .i64 0]) (size := 2) (bytes := 16) (by kernel_rfl)
  obtain ⟨a, cap, rfl, hn, ha⟩ := h
  have hown : w.ownsRow w.heap.size 37 2 (.slice none 0 0) 0 [] := ⟨rfl, .inl ⟨rfl, rfl⟩⟩
  rcases ha with ⟨rfl, rfl, rfl⟩ | ⟨g, rfl, hg⟩
  · exact ⟨none, 0, w, run_append_owned_none (P := Try.prog) (w := w) w.heap.size 46 46 37 i0 2 Try.underlying46 hi0 _ 0 [] hown, ⟨rfl, .inl ⟨rfl, rfl⟩⟩, ⟨rfl, rfl, rfl, Nat.le_refl _, fun _ _ _ => rfl⟩⟩
  · have hlt : (flatR (S.take n)).length = n * 2 := by rw [len_flatR, List.length_take]; omega
    obtain ⟨v, w', r1, r2, r3, _, _⟩ := run_append_own_at (P := Try.prog) (w := w) w.heap.size 46 46 37 i0 (.agg #[.int .i64 0, .int .i64 0]) 2 16 Try.underlying46 hi0 hz0 hz1 hz2 rfl (by decide) (.slice none 0 0) 0 [] hown ⟨g, 0, none⟩ n cap (flatR (S.take n)) hlt (fun j u hj => by
      rw [Addr.add_lit]
      rw [Nat.zero_add]
      refine hg j u ?_
      rw [flatR_take] at hj
      rw [List.getElem?_take] at hj
      split at hj
      · simpa using hj
      · cases hj) (flatR_one _) (by unfold maxLen; omega) (by omega) (Nat.le_refl _)
    rw [Nat.zero_add, List.nil_append] at r2
    obtain ⟨a', c', rfl⟩ := own_form r2
    exact ⟨a', c', w', r1, r2, r3⟩

theorem wpList_append_ran {P : Program} {w : World} {ops : Array Oper} {rest : List Oper} {o : Oper} {a : Act} {Q : Exit → Act → World → Prop} (hgd : o.guard = none) (s x : Operand) (t ty : TypeId)
    (ho : o.op = .call { callee := .builtin .append, args := #[s, x], argTypes := #[t, t] }) (hty : o.type = ty) (vs vx v' : Value) (w' : World) (hs : a.eval s = vs) (hx : a.eval x = vx) (hr : (Builtin.append_ #[t, t] ty #[vs, vx]).run P w = .ok v' w')
    (h : wpList P ops Q rest (a.put o.dst v') w') : wpList P ops Q (o :: rest) a w := by
  refine wpList_plain hgd fun K hK => ?_
  subst hty
  unfold Oper.wp execOp
  simp only [ho, resolve, invoke, builtin, Sem.run_bind, Sem.run_pure, Result.andThen_ok, List.map_toArray, List.map_cons, List.map_nil, hs, hx, hr]
  exact hK _ _ h

/-- How late the latest one is. -/
def worstR (t o : Int) (D : List Ent) : Int := D.foldl (fun m x => max m (t - x.2)) o
theorem but_head {S : List Ent} (hd : Diff S) {i : Nat} (hi : i < S.length) : but (S.drop i) (rid S i) = S.drop (i + 1) := by
  have e : S.drop i = (rid S i, rky S i) :: S.drop (i + 1) := drop_at hi
  have hp : Diff (S.drop i) := hd.sublist (List.drop_sublist i S)
  rw [e] at hp ⊢
  obtain ⟨h1, _⟩ := List.pairwise_cons.1 hp
  unfold but
  rw [List.filter_cons_of_neg (by simp), filter_all (fun y hy => (h1 y hy).symm)]
end Go.Proofs.Ytcipilggddpnpaa
