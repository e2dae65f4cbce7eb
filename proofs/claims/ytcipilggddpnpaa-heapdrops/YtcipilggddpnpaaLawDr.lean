/-
  HeapDrops: what is left, in the order in which it is dropped; the state between rounds.
-/
import Derived.Test.YtcipilggddpnpaaHpT
import Derived.Test.YtcipilggddpnpaaSxN
import Derived.Test.YtcipilggddpnpaaSyM
import Derived.Test.YtcipilggddpnpaaRfB
import Derived.Test.YtcipilggddpnpaaLv
import Derived.Test.YtcipilggddpnpaaLy
namespace Go.Proofs.Ytcipilggddpnpaa
open Go.RowKit Go.Sort Go.Shelf Go.Maps
set_option linter.unusedVariables false
set_option linter.unusedSimpArgs false

/-- Those that are dropped from the i-th drop on. -/
def remD (ys : List Int) (n f : Nat) : Nat → Nat → List Ent
  | _, 0 => []
  | i, k + 1 => ((((f + i) % n : Nat) : Int), ys.getD ((f + i) % n) 0) :: remD ys n f (i + 1) k
theorem len_rem (ys : List Int) (n f : Nat) : ∀ k i, (remD ys n f i k).length = k
  | 0, _ => rfl
  | k + 1, i => by rw [remD, List.length_cons, len_rem ys n f k]
theorem mem_rem {ys : List Int} {n f : Nat} {x : Ent} : ∀ {k i : Nat}, x ∈ remD ys n f i k ↔ ∃ j : Nat, (i ≤ j ∧ j < i + k) ∧ x = ((((f + j) % n : Nat) : Int), ys.getD ((f + j) % n) 0)
  | 0, i => by
    rw [remD]
    constructor
    · intro h; cases h
    · rintro ⟨j, ⟨h1, h2⟩, _⟩; omega
  | k + 1, i => by
    rw [remD, List.mem_cons, mem_rem]
    constructor
    · rintro (e | ⟨j, ⟨h1, h2⟩, e⟩)
      · exact ⟨i, ⟨Nat.le_refl _, by omega⟩, e⟩
      · exact ⟨j, ⟨by omega, by omega⟩, e⟩
    · rintro ⟨j, ⟨h1, h2⟩, e⟩
      by_cases h : j = i
      · subst h; exact .inl e
      · exact .inr ⟨j, ⟨by omega, by omega⟩, e⟩
theorem mod_diff {n f i j : Nat} (hf : f < n) (hi : i < n) (hj : j < n) (h : (f + i) % n = (f + j) % n) : i = j := by
  have e : ∀ x, x < n → (f + x) % n = if f + x < n then f + x else f + x - n := fun x hx => by
    split
    · exact Nat.mod_eq_of_lt (by assumption)
    · rw [Nat.mod_eq_sub_mod (by omega), Nat.mod_eq_of_lt (by omega)]
  rw [e i hi, e j hj] at h
  split at h <;> split at h <;> omega
theorem rem_diff (ys : List Int) {n f : Nat} (hf : f < n) : ∀ k i, i + k ≤ n → Diff (remD ys n f i k)
  | 0, _, _ => List.Pairwise.nil
  | k + 1, i, h => by
    unfold Diff
    rw [remD, List.pairwise_cons]
    refine ⟨fun x hx => ?_, rem_diff ys hf k (i + 1) (by omega)⟩
    obtain ⟨j, ⟨h1, h2⟩, rfl⟩ := mem_rem.1 hx
    intro e
    have e : (((f + i) % n : Nat) : Int) = (((f + j) % n : Nat) : Int) := e
    have := mod_diff hf (by omega) (by omega) (show (f + i) % n = (f + j) % n by omega)
    omega
theorem diff_nodupE {L : List Ent} (h : Diff L) : L.Nodup := List.Pairwise.imp (fun h e => h (by rw [e])) h
theorem rem_perm (ys : List Int) {n f : Nat} (hf : f < n) : (entsTo ys n).Perm (remD ys n f 0 n) := by
  refine (rot_perm ys hf).symm.trans ((List.perm_ext_iff_of_nodup (nodup_rot ys hf n (Nat.le_refl _)) (diff_nodupE (rem_diff ys hf n 0 (by omega)))).2 fun x => ?_)
  rw [mem_rot, mem_rem]
  exact ⟨fun ⟨j, h, e⟩ => ⟨j, ⟨Nat.zero_le _, by omega⟩, e⟩, fun ⟨j, ⟨_, h⟩, e⟩ => ⟨j, by omega, e⟩⟩

/-- The heap, the boxes and the rest, between two calls. -/
structure Dr (X : Nat) (w W : World) (hb mb : Nat) (ro : Option Nat) (nb : Nat) (n : Nat) (C : List Ent) : Prop where
  heap : Hs X W hb mb ro C
  low : Below X w W
  num : NumAt W nb n
  off : ∀ k, Mine hb mb ro k → k ≠ nb
  base : X ≤ W.heap.size
theorem Dr.kept {X : Nat} {w W W' : World} {hb mb : Nat} {ro : Option Nat} {nb n : Nat} {C : List Ent} {T : Nat → Prop} (h : Dr X w W hb mb ro nb n C) (k : Kept T W W') (h1 : ∀ b, Mine hb mb ro b → ¬ T b) (h2 : ¬ T nb) (h3 : ∀ b, T b → X ≤ b) : Dr X w W' hb mb ro nb n C :=
  ⟨h.heap.kept k h1, h.low.trans (k.below h.base h3), (k.block _ (Array.getElem?_eq_some_iff.1 h.num).1 h2).trans h.num, h.off, Nat.le_trans h.base k.size⟩
theorem Dr.lies {X : Nat} {w W W' : World} {hb mb : Nat} {ro : Option Nat} {nb n : Nat} {C : List Ent} (h : Dr X w W hb mb ro nb n C) (b : Below W.heap.size W W') : Dr X w W' hb mb ro nb n C :=
  h.kept (T := fun _ => False) ⟨b.os, b.tape, b.output, b.size, fun k hk _ => b.block k hk⟩ (fun _ _ x => x) (fun x => x) (fun _ x => x.elim)
theorem Dr.perm {X : Nat} {w W : World} {hb mb : Nat} {ro : Option Nat} {nb n : Nat} {C C' : List Ent} (h : Dr X w W hb mb ro nb n C) (hp : C.Perm C') : Dr X w W hb mb ro nb n C' := ⟨h.heap.perm hp, h.low, h.num, h.off, h.base⟩
theorem Dr.put {X : Nat} {w W : World} {hb mb : Nat} {ro : Option Nat} {nb n : Nat} {C : List Ent} (h : Dr X w W hb mb ro nb n C) (id k : Int) (hid : 0 ≤ id ∧ Is64 id) (hk : Is64 k) (hn : ∀ x ∈ C, x.1 ≠ id) (hr : C.length < 1099511627776) :
    Calls Try.prog 10 #[.pointer (some ⟨hb, 0, none⟩), .int .i64 id, .int .i64 k] W fun e w' => e = .returned (.int .i64 0) ∧ ∃ ro', Dr X w w' hb mb ro' nb n ((id, k) :: C) := by
  refine (hs_put h.heap h.base id k hid hk hn hr).mono ?_
  rintro e w' ⟨rfl, ro', l⟩
  have hnb := (Array.getElem?_eq_some_iff.1 h.num).1
  refine ⟨rfl, ro', l.heap, h.low.trans (l.kept.below h.base h.heap.from), (l.kept.block _ hnb (fun hs => h.off _ hs rfl)).trans h.num, ?_, Nat.le_trans h.base l.kept.size⟩
  rintro b (e | e | e) hb'
  · exact h.off b (.inl e) hb'
  · exact h.off b (.inr (.inl e)) hb'
  · rcases l.moved b e with e2 | e2
    · exact h.off b (.inr (.inr e2)) hb'
    · omega
theorem Dr.drop {X : Nat} {w W : World} {hb mb : Nat} {ro : Option Nat} {nb n : Nat} {m : Ent} {C : List Ent} (h : Dr X w W hb mb ro nb n (m :: C)) :
    Calls Try.prog 11 #[.pointer (some ⟨hb, 0, none⟩), .int .i64 m.1] W fun e w' => e = .returned (.tuple #[.int .i64 m.2, .int .i64 0]) ∧ Dr X w w' hb mb ro nb n C ∧ Kept (Mine hb mb ro) W w' := by
  refine (hs_drop h.heap m List.mem_cons_self).mono ?_
  rintro e w' ⟨rfl, l⟩
  have hl := l.heap
  rw [List.erase_cons_head] at hl
  exact ⟨rfl, ⟨hl, h.low.trans (l.kept.below h.base h.heap.from), (l.kept.block _ (Array.getElem?_eq_some_iff.1 h.num).1 (fun hs => h.off _ hs rfl)).trans h.num, h.off, Nat.le_trans h.base l.kept.size⟩, l.kept⟩

/-- The last key that was handed out before round k. -/
def prevK (S : List Ent) : Nat → Ent
  | 0 => (0, 0)
  | k + 1 => S.getD k (0, 0)
/-- The boxes of the count and of the last key, between two rounds of the range. -/
def LsI (W4 : World) (b : Nat) (S : List Ent) (k : Nat) (W : World) : Prop := Kept (fun i => i = b ∨ i = b + 1) W4 W ∧ NumAt W b k ∧ KeyAt W (b + 1) (prevK S k).2 (prevK S k).1
theorem lsI_own {W4 : World} {b : Nat} {S : List Ent} (hb : b + 1 < W4.heap.size) : OwnFrom W4.heap.size (LsI W4 b S) := fun k A B row hs hg hr => by
  obtain ⟨h1, h2, h3⟩ := hs
  refine ⟨h1.grown hg (fun k e => .inr (hr k e).1), ?_, ?_⟩
  · exact (hg.block b (Array.getElem?_eq_some_iff.1 h2).1 (fun e => by have := (hr b e.symm).1; omega)).trans h2
  · exact (hg.block (b + 1) (Array.getElem?_eq_some_iff.1 h3).1 (fun e => by have := (hr (b + 1) e.symm).1; omega)).trans h3
theorem LsI.lies {W4 W W' : World} {b k : Nat} {S : List Ent} (h : LsI W4 b S k W) (g : Below W.heap.size W W') : LsI W4 b S k W' :=
  ⟨h.1.trans ⟨g.os, g.tape, g.output, g.size, fun k hk _ => g.block k hk⟩, (g.block _ (Array.getElem?_eq_some_iff.1 h.2.1).1).trans h.2.1, (g.block _ h.2.2.lt).trans h.2.2⟩
/-- Behind a round: the last key is the one that was handed out, and one more is counted. -/
theorem LsI.next {W4 W : World} {b k : Nat} {S : List Ent} (h : LsI W4 b S k W) :
    LsI W4 b S (k + 1) (((W.setCell ⟨b + 1, 0, none⟩ (.int .i64 (rky S k))).setCell ⟨b + 1, 1, none⟩ (.int .i64 (rid S k))).setCell ⟨b, 0, none⟩ (.int .i64 ((k : Int) + 1))) := by
  obtain ⟨h1, h2, h3⟩ := h
  refine ⟨((h1.setCell (.inl (.inr rfl)) _).setCell (.inl (.inr rfl)) _).setCell (.inl (.inl rfl)) _, ?_, ?_⟩
  · have e : NumAt ((W.setCell ⟨b + 1, 0, none⟩ (.int .i64 (rky S k))).setCell ⟨b + 1, 1, none⟩ (.int .i64 (rid S k))) b k := by
      unfold NumAt at *
      rw [Below.heap_setCell _ _ _ _ (by show b ≠ b + 1; omega), Below.heap_setCell _ _ _ _ (by show b ≠ b + 1; omega)]
      exact h2
    unfold NumAt at *
    simp [World.setCell, Array.getElem?_modify] at e ⊢
    simp [e]
  · unfold KeyAt
    rw [Below.heap_setCell _ _ _ _ (by show b + 1 ≠ b; omega)]
    exact h3.set (rky S k) (rid S k)
theorem LsI.kept {W4 W : World} {b k : Nat} {S : List Ent} (h : LsI W4 b S k W) (v1 v2 v3 : Value) : Kept (fun i => i = b ∨ i = b + 1) W (((W.setCell ⟨b + 1, 0, none⟩ v1).setCell ⟨b + 1, 1, none⟩ v2).setCell ⟨b, 0, none⟩ v3) :=
  (((Kept.refl _ W).setCell (.inl (.inr rfl)) _).setCell (.inl (.inr rfl)) _).setCell (.inl (.inl rfl)) _
theorem set_two {W : World} {b c : Nat} {t d : Int} (h1 : NumAt W b c) (h2 : KeyAt W (b + 1) t d) (t' d' : Int) :
    (W.cell? ⟨b + 1, 0, none⟩ = some (.int .i64 t) ∧ W.frozen? ⟨b + 1, 0, none⟩ = false) ∧ ((W.setCell ⟨b + 1, 0, none⟩ (.int .i64 t')).cell? ⟨b + 1, 1, none⟩ = some (.int .i64 d) ∧ (W.setCell ⟨b + 1, 0, none⟩ (.int .i64 t')).frozen? ⟨b + 1, 1, none⟩ = false) ∧ ((W.setCell ⟨b + 1, 0, none⟩ (.int .i64 t')).setCell ⟨b + 1, 1, none⟩ (.int .i64 d')).cell? ⟨b, 0, none⟩ = some (.int .i64 (c : Int)) ∧ ((W.setCell ⟨b + 1, 0, none⟩ (.int .i64 t')).setCell ⟨b + 1, 1, none⟩ (.int .i64 d')).frozen? ⟨b, 0, none⟩ = false := by
  refine ⟨⟨h2.c0, h2.thaw 0⟩, ⟨?_, ?_⟩, ?_⟩
  · unfold KeyAt at h2
    simp [World.cell?, World.setCell, Array.getElem?_modify, h2]
  · unfold KeyAt at h2
    simp [World.frozen?, World.setCell, Array.getElem?_modify, h2]
  · have e : NumAt ((W.setCell ⟨b + 1, 0, none⟩ (.int .i64 t')).setCell ⟨b + 1, 1, none⟩ (.int .i64 d')) b c := by
      unfold NumAt at *
      rw [Below.heap_setCell _ _ _ _ (by show b ≠ b + 1; omega), Below.heap_setCell _ _ _ _ (by show b ≠ b + 1; omega)]
      exact h1
    exact e.cell
theorem marks_low {B B' : Nat} {W : World} (h : B' ≤ B) : ∀ {ds : List Deferred}, Marks B ds W → Marks B' ds W
  | [], _ => trivial
  | _ :: _, ⟨⟨D, h1, h2, h3, h4⟩, h5⟩ => ⟨⟨D, h1, Nat.le_trans h h2, h3, h4⟩, marks_low h h5⟩
theorem dr_sorted {S : List Ent} (h : ∀ i j, i < j → j < S.length → ah (S.getD i (0, 0)) (S.getD j (0, 0)) = true) : Sorted S := by
  refine List.pairwise_iff_getElem.2 fun i j hi hj hij => ?_
  have := h i j hij hj
  rwa [List.getD_eq_getElem?_getD, List.getD_eq_getElem?_getD, List.getElem?_eq_getElem hi, List.getElem?_eq_getElem hj] at this
theorem dr_nodup {L : List Ent} (h : Diff L) : (L.map (·.1)).Nodup := by
  rw [List.Nodup, List.pairwise_map]
  exact h
theorem prev_ah {S : List Ent} (hs : Sorted S) {k : Nat} (hk : k + 1 < S.length) : ah (prevK S (k + 1)) (S.getD (k + 1) (0, 0)) = true := by
  unfold prevK
  obtain ⟨h1, h2, h3⟩ := hs.least (i := k) (by omega)
  refine h2 _ ?_ ?_
  · rw [drop_getD (by omega), drop_getD (by omega)]; simp
  · intro e
    have hp : Sorted (S.drop k) := List.Pairwise.sublist (List.drop_sublist k S) hs
    rw [drop_getD (by omega), drop_getD (by omega)] at hp
    have := (List.pairwise_cons.1 hp).1 (S.getD (k + 1) (0, 0)) (by simp)
    rw [e] at this
    rw [ah_eq] at this
    have := of_decide_eq_true this
    omega
end Go.Proofs.Ytcipilggddpnpaa
