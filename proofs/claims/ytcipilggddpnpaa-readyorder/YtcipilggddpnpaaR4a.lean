/-
  The reference's queue (layer 4): Put and Move.
-/
import Derived.Test.YtcipilggddpnpaaTu
import Derived.Test.YtcipilggddpnpaaTw
import Derived.Test.YtcipilggddpnpaaQf
import Derived.Test.YtcipilggddpnpaaQd
import Derived.Deep.RegionLaw
import Derived.Deep.Cut
namespace Go.Proofs.Ytcipilggddpnpaa
open Go.RowKit Go.Shelf Go.Maps
set_option linter.unusedVariables false
set_option linter.unusedSimpArgs false

theorem ref_slice4 {B : Nat} {w : World} {rh : Nat} {S : List Ent} (h : RefIs B w rh S) : ∃ v, w.cell? ⟨rh, 0, none⟩ = some v ∧ (∃ a cap, v = .slice a S.length cap) ∧ ∀ w', (∀ p u, w.cell? p = some u → w'.cell? p = some u) → SliceOf w' v S.length S := by
  obtain ⟨a, cap, h1, h2⟩ := h
  refine ⟨.slice a S.length cap, by simp [World.cell?, h1], ⟨a, cap, rfl⟩, fun w' hw => ⟨a, cap, rfl, Nat.le_refl _, ?_⟩⟩
  rcases h2.2 with ⟨e, h0⟩ | ⟨g, c, cur, e, _, h3, h4, h5, h6, h7⟩
  · simp only [Value.slice.injEq] at e
    obtain ⟨rfl, _, rfl⟩ := e
    exact .inl ⟨rfl, by omega, rfl⟩
  · simp only [Value.slice.injEq] at e
    obtain ⟨rfl, _, rfl⟩ := e
    refine .inr ⟨g, rfl, fun j u hj => hw _ _ ?_⟩
    have hlt : j < S.length * 2 := by rw [← len_flatR]; exact (List.getElem?_eq_some_iff.1 hj).1
    have := h2.cellAt j (by omega)
    rw [this]; exact hj
theorem step_ran4 {P : Program} {ops : Array Oper} {o : Oper} {a : Act} {w w1 : World} {K : Act → World → Prop} {Q : Exit → Act → World → Prop} {E : Prop} {v u r : Value}
    (hg : o.guard = none) (s x : Operand) (t : TypeId) (hop : o.op = Op.call { callee := Callee.builtin Builtin.append, args := #[s, x], argTypes := #[t, t] })
    (hs : a.eval s = v) (hx : a.eval x = u) (hrun : (Builtin.append_ #[t, t] o.type #[v, u]).run P w = .ok r w1) (hK : K (a.put o.dst r) w1) :
    if Region.wanted o (yielded ops a.tmps) = true then Oper.wp P o a w K Q else E := by
  have hw : Region.wanted o (yielded ops a.tmps) = true := by simp [Region.wanted, hg]
  rw [if_pos hw]
  unfold Oper.wp
  simp [execOp, hop, resolve, invoke, builtin, hs, hx, hrun, Result.andThen]
  exact hK

/-- What is there behind a Put, in order. -/
theorem putsR_step {A : List Ent} {x : Ent} {r : List Ent} : putsR A (x :: r) = if putR A x = 0 then putsR (x :: A) r else putR A x := rfl
theorem putR_has {A N : List Ent} (hp : N.Perm A) (x : Ent) : putR A x = if x.1 < 0 then 1 else if timeE x.2 ≠ 0 then timeE x.2 else if has N x.1 then 15 else 0 := by
  have e : A.any (fun y => y.1 == x.1) = has N x.1 := by
    unfold has
    rw [Bool.eq_iff_iff, List.any_eq_true, List.any_eq_true]
    exact ⟨fun ⟨y, h1, h2⟩ => ⟨y, hp.mem_iff.2 h1, h2⟩, fun ⟨y, h1, h2⟩ => ⟨y, hp.mem_iff.1 h1, h2⟩⟩
  unfold putR
  rw [e]

/-- Between two rounds of Put. -/
structure PutM (B : Nat) (w W : World) (rf nb : Nat) (S l : List Ent) (i : Nat) (N : List Ent) : Prop where
  next : RefIs B W nb N
  old : RefIs B W rf S
  perm : N.Perm ((l.take i).reverse ++ S)
  sorted : Sorted N
  diff : Diff N
  kept : Kept (fun _ => False) w W
  todo : putsR S l = putsR ((l.take i).reverse ++ S) (l.drop i)
end Go.Proofs.Ytcipilggddpnpaa
