/-
  Layer 4's example: awake.
-/
import Derived.Test.YtcipilggddpnpaaQh
namespace Go.Proofs.Ytcipilggddpnpaa
open Go.RowKit Go.Sort Go.Shelf Go.Maps
set_option linter.unusedVariables false
set_option linter.unusedSimpArgs false

/-- A row of keys, as keys. -/
theorem own_keys {w : World} {B : Nat} {a : Option Addr} {cap n : Nat} {T : List Ent} (h : w.ownsRow B 37 2 (.slice a n cap) n (flatR T)) (hT : ∀ x ∈ T, Is64 x.1 ∧ Is64 x.2) : KeysAt w a T ∧ n = T.length ∧ n ≤ cap ∧ (∀ x, a = some x → B ≤ x.block) := by
  have hn : n = T.length := by have := h.1; rw [len_flatR] at this; omega
  rcases h.2 with ⟨x, e0⟩ | ⟨g, cap', cur, x, hg, hc, h1, _⟩
  · simp only [Value.slice.injEq] at x
    obtain ⟨rfl, _, rfl⟩ := x
    exact ⟨.inl (by omega), hn, by omega, fun x e => by cases e⟩
  · have h2 := h
    simp only [Value.slice.injEq] at x
    obtain ⟨rfl, _, rfl⟩ := x
    refine ⟨.inr ⟨g, 0, rfl, (Array.getElem?_eq_some_iff.1 hc).1, fun i hi => ?_⟩, hn, h1, fun x e => by cases e; exact hg⟩
    obtain ⟨f1, f2⟩ := flatR_get T i hi
    have c1 := h2.cells rfl _ _ f1
    have c2 := h2.cells rfl _ _ f2
    have e1 : ∀ i, (⟨g, 0, none⟩ : Addr).add i = ⟨g, 0 + i, none⟩ := fun i => by
      unfold Addr.add
      split
      · subst_vars; rfl
      · rfl
    rw [e1] at c1 c2
    exact ⟨⟨c1, by rw [← Nat.add_assoc] at c2; exact c2⟩, hT _ (by rw [List.getD_eq_getElem?_getD, List.getElem?_eq_getElem hi]; exact List.getElem_mem hi)⟩

def exL : List Ent := [(1, 5), (2, 3), (0, 5)]
def exT : List Ent := [(2, 3), (0, 5), (1, 5)]
theorem ex_puts : putsR [] exL = 0 := by decide
theorem ex_keys (W : World) : KeysAt (W.alloc (.cells #[.int .i64 5, .int .i64 1, .int .i64 3, .int .i64 2, .int .i64 5, .int .i64 0] 37)) (some ⟨W.heap.size, 0, none⟩) exL := by
  refine .inr ⟨_, 0, rfl, by simp, fun i hi => ?_⟩
  have hi : i < 3 := hi
  rcases i with _ | _ | _ | i
  · exact ⟨⟨by simp [go_sem, exL], by simp [go_sem, exL]⟩, by unfold Is64; decide, by unfold Is64; decide⟩
  · exact ⟨⟨by simp [go_sem, exL], by simp [go_sem, exL]⟩, by unfold Is64; decide, by unfold Is64; decide⟩
  · exact ⟨⟨by simp [go_sem, exL], by simp [go_sem, exL]⟩, by unfold Is64; decide, by unfold Is64; decide⟩
  · omega
theorem ex_two (W : World) : KeysAt (W.alloc (.cells #[.int .i64 3, .int .i64 2, .int .i64 5, .int .i64 0] 37)) (some ⟨W.heap.size, 0, none⟩) (exT.take 2) := by
  refine .inr ⟨_, 0, rfl, by simp, fun i hi => ?_⟩
  have hi : i < 2 := hi
  rcases i with _ | _ | i
  · exact ⟨⟨by simp [go_sem, exT], by simp [go_sem, exT]⟩, by unfold Is64; decide, by unfold Is64; decide⟩
  · exact ⟨⟨by simp [go_sem, exT], by simp [go_sem, exT]⟩, by unfold Is64; decide, by unfold Is64; decide⟩
  · omega
theorem ex_perm : exT.Perm (exL.reverse ++ []) := by decide
theorem ex_sorted : Sorted exT := by unfold Sorted exT; decide
theorem ex_diff : exT.Pairwise (fun x y => x.1 ≠ y.1) := by unfold exT; decide
theorem ex_first : IsFirst (exL.reverse ++ []) (2, 3) := ⟨by decide, by decide⟩
theorem ex_last : IsLast (exL.reverse ++ []) (1, 5) := ⟨by decide, by decide⟩
theorem ex_64 : ∀ x ∈ exT.take 2, Is64 x.1 ∧ Is64 x.2 := by unfold Is64; decide

set_option maxHeartbeats 4000000 in
set_option maxRecDepth 100000 in
theorem awake4 (w : World) : Calls Try.prog 18 #[] w fun E w' => E = .returned (.bool true) ∧ Below w.heap.size w w' := by
  have C0 := Lib.hid (qnew_any w.heap.size w (Nat.le_refl _))
  go_enter Try.func18, Try.ntmps18
  go_wp2_with fail
  refine C0.out.mono ?_
  rintro E w1 ⟨q, rfl, h1, g1, o1⟩
  obtain ⟨W2, hW2⟩ : ∃ W2, w1.alloc (.cells #[.int .i64 5, .int .i64 1, .int .i64 3, .int .i64 2, .int .i64 5, .int .i64 0] 37) = W2 := ⟨_, rfl⟩
  have g2 : Grew w1 W2 := by rw [← hW2]; exact (Grew.refl w1).alloc _
  have s2 := (g1.trans g2).size
  have CP : Hid (Calls Try.prog 44 #[.pointer (some ⟨q.qb, 0, none⟩), .slice (some ⟨w1.heap.size, 0, none⟩) 3 3] W2 fun E w' => E = .returned (.int .i64 0) ∧ ∃ q', LeftQ w.heap.size W2 w' q q' (exL.reverse ++ [])) := by
    have := qput_any (h1.grew g2) s2 (some ⟨w1.heap.size, 0, none⟩) 3 (l := exL) (by rw [← hW2]; exact ex_keys w1) (fun x e hx => by
      cases e
      exact Nat.lt_irrefl _ (h1.lt _ (.inl hx))) (by decide) (by decide)
    rw [ex_puts] at this
    have e : putsL [] exL = exL.reverse ++ [] := if_pos ex_puts
    rw [e] at this
    exact this
  have HB : Hid (Qs w.heap.size w1 q [] ∧ Below w.heap.size w W2 ∧ w.heap.size ≤ W2.heap.size ∧ Qs w.heap.size W2 q []) := ⟨h1, (g1.trans g2).below, s2, h1.grew g2⟩
  clear h1 g1 o1 g2 s2 C0
  go_wp2_with (go_at_call 44; (try rw [hW2]); (with_reducible refine CP.out.mono ?_); rintro E w3 ⟨rfl, q', l3⟩; have L3 := Lib.hid l3; clear l3)
  have C1 : Hid (Calls Try.prog 28 #[.pointer (some ⟨q.qb, 0, none⟩)] w3 fun E w' => E = .returned (.tuple #[.agg #[.int .i64 3, .int .i64 2], .int .i64 0]) ∧ Grew w3 w') := by
    have := qfirst_any L3.out.queue (2, 3) ex_first
    rw [L3.out.here.1] at this
    exact this
  have C2 : Hid (∀ W, Grew w3 W → Calls Try.prog 29 #[.pointer (some ⟨q.qb, 0, none⟩)] W fun E w' => E = .returned (.tuple #[.agg #[.int .i64 5, .int .i64 1], .int .i64 0]) ∧ Grew W w') := fun W g => by
    have := qlast_any (L3.out.queue.grew g) (1, 5) ex_last
    rw [L3.out.here.1] at this
    exact this
  have C3 : Hid (∀ W, Grew w3 W → Calls Try.prog 24 #[.pointer (some ⟨q.qb, 0, none⟩), .int .i64 2] W fun E w' => ∃ a cap, E = .returned (.slice a 2 cap) ∧ w'.ownsRow W.heap.size 37 2 (.slice a 2 cap) 2 (flatR (exT.take 2)) ∧ Kept (fun _ => False) W w') := fun W g => by
    have := qleast_any (L3.out.queue.grew g) ex_perm ex_sorted ex_diff (by decide) 2
    rw [L3.out.here.1] at this
    exact this
  refine C1.out.mono ?_
  rintro E w4 ⟨rfl, g4⟩
  have G4 := Lib.hid g4
  clear g4 CP C1
  go_wp2_with fail
  obtain ⟨W5, hW5⟩ : ∃ W5, w4.alloc (.cells #[.int .i64 3, .int .i64 2] 37) = W5 := ⟨_, rfl⟩
  rw [hW5]
  have G5 : Hid (Grew w3 W5) := by rw [← hW5]; exact G4.out.alloc _
  have F5 : Hid (∀ W, Grew W5 W → w4.heap.size < W.heap.size ∧ W.cell? ⟨w4.heap.size, 0, none⟩ = some (.int .i64 3) ∧ W.cell? ⟨w4.heap.size, 1, none⟩ = some (.int .i64 2)) := fun W g => by
    have hlt : w4.heap.size < W5.heap.size := by rw [← hW5]; simp
    exact ⟨Nat.lt_of_lt_of_le hlt g.size, boxed hW5 (g.kept (fun _ => False)) (fun x => x)⟩
  clear hW5
  refine (C2.out W5 G5.out).mono ?_
  rintro E w6 ⟨rfl, g6⟩
  obtain ⟨W7, hW7⟩ : ∃ W7, w6.alloc (.cells #[.int .i64 5, .int .i64 1] 37) = W7 := ⟨_, rfl⟩
  have G7 : Hid (Grew w3 W7) := by rw [← hW7]; exact (G5.out.trans g6).alloc _
  obtain ⟨y0, y1, y2⟩ := F5.out W7 (by rw [← hW7]; exact g6.alloc _)
  obtain ⟨y3, y4⟩ := boxed hW7 (Kept.refl (fun _ => False) W7) (fun x => x)
  have CL := Lib.hid (C3.out W7 G7.out)
  clear g6 F5 C2 C3
  go_wp2_with (go_at_call 24; (try rw [hW7]); (with_reducible refine CL.out.mono ?_); rintro E w8 ⟨a, cap, rfl, h8, k8⟩; have H8 := Lib.hid (And.intro h8 k8); clear h8 k8)
  have CK : Hid (Calls Try.prog 23 #[.slice a 2 cap, .slice (some ⟨w8.heap.size, 0, none⟩) 2 2] (w8.alloc (.cells #[.int .i64 3, .int .i64 2, .int .i64 5, .int .i64 0] 37)) fun E w' => E = .returned (.bool true) ∧ Grew (w8.alloc (.cells #[.int .i64 3, .int .i64 2, .int .i64 5, .int .i64 0] 37)) w') := by
    have hk := (own_keys H8.out.1 ex_64).1
    exact keys_any _ a (some ⟨w8.heap.size, 0, none⟩) (exT.take 2) (exT.take 2) cap 2 (hk.kept (((Grew.refl w8).alloc _).kept (fun _ => False)) (fun _ _ x => x)) (ex_two w8) (by decide) (by decide)
  refine CK.out.mono ?_
  rintro E w9 ⟨rfl, g9⟩
  have G9 := Lib.hid g9
  clear g9
  go_wp2
  go_ret
  refine ⟨rfl, ?_⟩
  have b3 : Below w.heap.size W2 w3 := L3.out.below HB.out.2.2.2 HB.out.2.2.1
  have s3 := b3.size
  have k8 : Kept (fun _ => False) w3 w8 := (G7.out.kept _).trans H8.out.2
  have k9 : Kept (fun _ => False) w3 w9 := (k8.alloc _).trans (G9.out.kept _)
  exact (HB.out.2.1.trans b3).trans (k9.below (Nat.le_trans HB.out.2.2.1 s3) (fun _ x => x.elim))
end Go.Proofs.Ytcipilggddpnpaa
