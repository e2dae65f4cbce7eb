/-
  The reference's queue (layer 4): Move; a queue and the reference's side by side.
-/
import Derived.Test.YtcipilggddpnpaaR4b
import Derived.Test.YtcipilggddpnpaaQj
namespace Go.Proofs.Ytcipilggddpnpaa
open Go.RowKit Go.Shelf Go.Maps
set_option linter.unusedVariables false
set_option linter.unusedSimpArgs false

/-- What is there behind a Move, in order. -/
def moveS (S : List Ent) (x : Ent) : List Ent := if moveR S x = 0 then layR x (but S x.1) else S
theorem moveS_perm (S : List Ent) (x : Ent) : (moveS S x).Perm (moveL S x) := by
  unfold moveS moveL
  split
  · exact layR_perm x (but S x.1)
  · exact List.Perm.refl _
theorem moveS_sorted {S : List Ent} (h : Sorted S) (x : Ent) : Sorted (moveS S x) := by
  unfold moveS
  split
  · exact layR_sorted x (sorted_filter h _) (fun y hy => by simpa using (List.mem_filter.1 hy).2)
  · exact h
theorem moveS_diff {S : List Ent} (h : Diff S) (x : Ent) : Diff (moveS S x) := by
  unfold moveS
  split
  · exact layR_diff x (diff_but h _) (fun y hy => by simpa using (List.mem_filter.1 hy).2)
  · exact h
theorem moveS_len (S : List Ent) (x : Ent) : (moveS S x).length ≤ S.length + 1 := by
  unfold moveS
  split
  · rw [layR_len]
    have := but_len S x.1
    omega
  · omega

set_option maxHeartbeats 2000000 in
set_option maxRecDepth 20000 in
theorem rmove4_any {B : Nat} {w : World} {rf : Nat} {S : List Ent} (h : RefIs B w rf S) (hd : Diff S) (hB : B ≤ w.heap.size) (hl : S.length < 1099511627776) (x : Ent) :
    Calls Try.prog 46 #[.pointer (some ⟨rf, 0, none⟩), .agg #[.int .i64 x.2, .int .i64 x.1]] w fun E w' => E = .returned (.int .i64 (moveR S x)) ∧ RefIs B w' rf (moveS S x) ∧ Kept (fun k => k = rf) w w' := by
  obtain ⟨id, t⟩ := x
  obtain ⟨W0, hW0⟩ : ∃ W0, w.alloc (.cells #[.int .i64 t, .int .i64 id] 37) = W0 := ⟨_, rfl⟩
  have g0 : Grew w W0 := by rw [← hW0]; exact (Grew.refl w).alloc _
  obtain ⟨k0, k1⟩ := boxed hW0 (Kept.refl (fun _ => False) W0) (fun x => x)
  have R0 := h.grew g0
  have G0 := Lib.hid g0
  have HW := Lib.hid hW0
  have HR := Lib.hid R0
  have CA := Lib.hid (refAt_any B W0 rf S (by omega) R0 id)
  rcases find_any hd id with ⟨h1, i, hi, hr, hf⟩ | ⟨h1, hf⟩
  · have e1 : (S.any fun y => y.1 == id) = true := h1
    have t1 : decide ((i : Int) < 0) = false := decide_eq_false (by omega)
    rw [hf] at CA
    have CT : ∀ W, Hid (Calls Try.prog 70 #[.int .i64 t] W fun e w' => e = .returned (.int .i64 (timeE t)) ∧ W = w') := fun W => rtime_any t W
    by_cases ht : timeE t = 0
    · have em : moveR S (id, t) = 0 := by unfold moveR; rw [if_pos e1]; exact ht
      have es : moveS S (id, t) = layR (id, t) (but S id) := if_pos em
      rw [em, es]
      have CC := Lib.hid (refChange_there B W0 rf S (by omega) (Nat.le_trans hB g0.size) R0 id t i hi hf)
      have eb : S.eraseIdx i = but S id := by rw [but_at hd hi, hr]
      rw [eb] at CC
      rw [ht] at CT
      clear h g0 hW0 R0 hf hr eb em es e1 h1 hi hd
      go_enter Try.func46, Try.ntmps46
      go_wp2_with fail
      rw [HW.out]
      refine CA.out.mono ?_
      rintro E w1 ⟨rfl, hw1⟩
      subst hw1
      go_wp2_with fail
      refine (CT _).out.mono ?_
      rintro E w2 ⟨rfl, rfl⟩
      go_wp2_with fail
      refine CC.out.mono ?_
      rintro E w2 ⟨rfl, r2, kk⟩
      have F2 := Lib.hid (And.intro r2 (G0.out.kept (fun k => k = rf) |>.trans kk))
      clear r2 kk
      go_wp2
      go_ret
      exact ⟨rfl, F2.out⟩
    · have em : moveR S (id, t) = timeE t := by unfold moveR; rw [if_pos e1]
      have es : moveS S (id, t) = S := if_neg (by rw [em]; exact ht)
      rw [em, es]
      have ht' : (timeE t == 0) = false := by simpa using ht
      clear h g0 hW0 R0 hf hr em es e1 h1 hi hd ht
      generalize timeE t = y at *
      go_enter Try.func46, Try.ntmps46
      go_wp2_with fail
      rw [HW.out]
      refine CA.out.mono ?_
      rintro E w1 ⟨rfl, hw1⟩
      subst hw1
      go_wp2_with fail
      refine (CT _).out.mono ?_
      rintro E w2 ⟨rfl, rfl⟩
      go_wp2
      go_ret
      exact ⟨rfl, HR.out, G0.out.kept _⟩
  · have e1 : (S.any fun y => y.1 == id) = false := h1
    have t1 : decide ((-1 : Int) < 0) = true := by decide
    rw [hf] at CA
    have em : moveR S (id, t) = 14 := by unfold moveR; rw [if_neg (by rw [e1]; decide)]
    have es : moveS S (id, t) = S := if_neg (by rw [em]; decide)
    rw [em, es]
    clear h g0 hW0 R0 hf em es e1 h1 hd
    go_enter Try.func46, Try.ntmps46
    go_wp2_with fail
    rw [HW.out]
    refine CA.out.mono ?_
    rintro E w1 ⟨rfl, hw1⟩
    subst hw1
    go_wp2
    go_ret
    exact ⟨rfl, HR.out, G0.out.kept _⟩

/-- A queue and the reference's that hold the same, in order; X: where what turns begins. -/
structure Pq (X : Nat) (W : World) (q : QB) (rf : Nat) (S : List Ent) : Prop where
  queue : Qs X W q S
  ref : RefIs X W rf S
  sorted : Sorted S
  diff : Diff S
  good : ∀ x ∈ S, (¬ x.1 < 0 ∧ timeE x.2 = 0) ∧ Is64 x.1 ∧ Is64 x.2
  base : X ≤ W.heap.size
  rb : X ≤ rf
theorem Qs.kindsR {B : Nat} {W : World} {q : QB} {L : List Ent} (h : Qs B W q L) : ∀ k, q.own k → ∃ ob, W.heap[k]? = some ob ∧ tyOf ob ≠ some 48 ∧ tyOf ob ≠ some 37 := by
  rintro k ((hm | hm) | rfl | rfl)
  · obtain ⟨ob, ho, ht⟩ := h.up.kinds k hm
    refine ⟨ob, ho, ?_⟩
    rcases ht with e | e | e <;> rw [e] <;> exact ⟨by decide, by decide⟩
  · obtain ⟨ob, ho, ht⟩ := h.down.kinds k hm
    refine ⟨ob, ho, ?_⟩
    rcases ht with e | e | e <;> rw [e] <;> exact ⟨by decide, by decide⟩
  · exact ⟨_, h.obj, by show some _ ≠ _; decide, by show some _ ≠ _; decide⟩
  · exact ⟨_, h.box, by show some _ ≠ _; decide, by show some _ ≠ _; decide⟩
/-- The reference behind a call of the queue. -/
theorem RefIs.besideQ {B B' : Nat} {W W' : World} {q : QB} {rf : Nat} {L S : List Ent} (h : RefIs B W rf S) (t : Qs B' W q L) (k : Kept q.turns W W') : RefIs B W' rf S :=
  h.kept k (fun b ob hs hb => by
    obtain ⟨ob', ho, e1, e2⟩ := t.kindsR b (.inl hs)
    rw [hb] at ho
    cases ho
    exact ⟨e1, e2⟩)
/-- The queue behind a call of the reference. -/
theorem Qs.besideR {B B' : Nat} {W W' : World} {q : QB} {rf : Nat} {L S : List Ent} (h : Qs B W q L) (r : RefIs B' W rf S) (k : Kept (fun k => k = rf) W W') : Qs B W' q L :=
  h.kept k (fun b hb e => by
    obtain ⟨ob, ho, e1, _⟩ := h.kindsR b hb
    obtain ⟨a, cap, h1, _⟩ := r
    rw [e, h1] at ho
    cases ho
    exact e1 rfl)
theorem Pq.lies {X : Nat} {W W' : World} {q : QB} {rf : Nat} {S : List Ent} (h : Pq X W q rf S) (b : Below W.heap.size W W') : Pq X W' q rf S :=
  ⟨h.queue.kept (kept_lies (S := fun _ => False) b) (fun _ _ x => x), h.ref.lies b, h.sorted, h.diff, h.good, Nat.le_trans h.base b.size, h.rb⟩
theorem Pq.grew {X : Nat} {W W' : World} {q : QB} {rf : Nat} {S : List Ent} (h : Pq X W q rf S) (g : Grew W W') : Pq X W' q rf S := h.lies g.below
end Go.Proofs.Ytcipilggddpnpaa
