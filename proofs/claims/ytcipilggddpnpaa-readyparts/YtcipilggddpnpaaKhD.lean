/-
  Heap[api.Key]: the whole of a heap's memory as one word; swap, in that word.
-/
import Derived.Test.YtcipilggddpnpaaKhC
import Derived.Test.YtcipilggddpnpaaHpD
namespace Go.Proofs.Ytcipilggddpnpaa.K
open Go.RowKit Go.Sort Go.Shelf Go.Maps
set_option linter.unusedVariables false
set_option linter.unusedSimpArgs false

def swp2 (R : List Ent) (a b : Nat) : List Ent := (R.set a (R.getD b (0, 0, 0))).set b (R.getD a (0, 0, 0))

theorem getD_set (R : List Ent) (i j : Nat) (x : Ent) (hi : i < R.length) : (R.set i x).getD j (0, 0, 0) = if j = i then x else R.getD j (0, 0, 0) := by
  simp only [List.getD_eq_getElem?_getD, List.getElem?_set]
  by_cases h : i = j
  · subst h; simp [hi]
  · rw [if_neg h, if_neg (fun e => h e.symm)]

theorem len_swp2 (R : List Ent) (a b : Nat) : (swp2 R a b).length = R.length := by simp [swp2]
theorem getD_swp2 (R : List Ent) (a b j : Nat) (ha : a < R.length) (hb : b < R.length) : (swp2 R a b).getD j (0, 0, 0) = if j = b then R.getD a (0, 0, 0) else if j = a then R.getD b (0, 0, 0) else R.getD j (0, 0, 0) := by
  unfold swp2
  rw [getD_set _ _ _ _ (by simpa using hb), getD_set _ _ _ _ ha]

/-- The map of places: each number's place, and of no other number one. -/
structure Places (D : DataW Unit) (R : List Ent) : Prop where
  at_ : ∀ i, i < R.length → Maps.has D (.int .i64 (rid R i)) = true ∧ D.atKey (.int .i64 (rid R i)) (.lit (.int .i64 0)) = .lit (.int .i64 i)
  no : ∀ id, (∀ i, i < R.length → rid R i ≠ id) → Maps.has D (.int .i64 id) = false

theorem Places.inj {D : DataW Unit} {R : List Ent} (h : Places D R) {i j : Nat} (hi : i < R.length) (hj : j < R.length) (e : rid R i = rid R j) : i = j := by
  have h1 := (h.at_ i hi).2
  have h2 := (h.at_ j hj).2
  rw [e, h2] at h1
  simp at h1
  omega

theorem Places.swap {D : DataW Unit} {R : List Ent} (h : Places D R) (hD : IsMap D) {a b : Nat} (ha : a < R.length) (hb : b < R.length) :
    Places ((D.put (.int .i64 (rid R b)) (.lit (.int .i64 a))).put (.int .i64 (rid R a)) (.lit (.int .i64 b))) (swp2 R a b) := by
  have hr : ∀ j, rid (swp2 R a b) j = if j = b then rid R a else if j = a then rid R b else rid R j := fun j => by
    unfold rid; rw [getD_swp2 R a b j ha hb]; split
    · rfl
    · split <;> rfl
  have hD1 : IsMap (D.put (.int .i64 (rid R b)) (.lit (.int .i64 a))) := hD.put _ _
  constructor
  · intro i hi
    rw [len_swp2] at hi
    rw [hr i]
    by_cases e : i = b
    · subst e
      rw [if_pos rfl]
      exact ⟨has_put_same hD1 (isKeyLit _) _, atKey_put_same hD1 (isKeyLit _) _ _⟩
    · rw [if_neg e]
      by_cases e2 : i = a
      · subst e2
        rw [if_pos rfl]
        have hne : rid R b ≠ rid R i := fun x => e (h.inj hb hi x).symm
        exact ⟨by rw [has_put_other (lit_ne hne)]; exact has_put_same hD (isKeyLit _) _, by rw [atKey_put_other (lit_ne hne)]; exact atKey_put_same hD (isKeyLit _) _ _⟩
      · rw [if_neg e2]
        have h1 : rid R i ≠ rid R a := fun x => e2 (h.inj hi ha x)
        have h2 : rid R i ≠ rid R b := fun x => e (h.inj hi hb x)
        exact ⟨by rw [has_put_other (lit_ne h1), has_put_other (lit_ne h2)]; exact (h.at_ i hi).1, by rw [atKey_put_other (lit_ne h1), atKey_put_other (lit_ne h2)]; exact (h.at_ i hi).2⟩
  · intro id hno
    have g1 : id ≠ rid R a := fun x => hno b (by rw [len_swp2]; exact hb) (by rw [hr b, if_pos rfl, x])
    have g2 : id ≠ rid R b := fun x => by
      by_cases e : a = b
      · subst e; exact g1 x
      · exact hno a (by rw [len_swp2]; exact ha) (by rw [hr a, if_neg e, if_pos rfl, x])
    rw [has_put_other (lit_ne g1), has_put_other (lit_ne g2)]
    refine h.no id fun i hi x => ?_
    have := hno i (by rw [len_swp2]; exact hi)
    rw [hr i] at this
    by_cases e : i = b
    · exact g2 (by rw [← x, e])
    · rw [if_neg e] at this
      by_cases e2 : i = a
      · exact g1 (by rw [← x, e2])
      · rw [if_neg e2] at this; exact this x

theorem Places.swap_size {D : DataW Unit} {R : List Ent} (h : Places D R) (hT : Tidy D) {a b : Nat} (ha : a < R.length) (hb : b < R.length) :
    Maps.size ((D.put (.int .i64 (rid R b)) (.lit (.int .i64 a))).put (.int .i64 (rid R a)) (.lit (.int .i64 b))) = Maps.size D := by
  rw [size_put (hT.put (isKeyLit _) _), size_put hT, if_pos (h.at_ b hb).1]
  have : Maps.has (D.put (.int .i64 (rid R b)) (.lit (.int .i64 a))) (.int .i64 (rid R a)) = true := by
    by_cases e : rid R a = rid R b
    · rw [e]; exact has_put_same hT.isMap (isKeyLit _) _
    · rw [has_put_other (lit_ne e)]; exact (h.at_ a ha).1
  rw [if_pos this]

theorem RowAt.set2 {w : World} {rb cap : Nat} {R : List Ent} (h : RowAt w rb cap R) {i : Nat} (hi : i < R.length) (x y z : Int) :
    RowAt (((w.setCell ⟨rb, i * 3, none⟩ (.int .i64 x)).setCell ⟨rb, i * 3 + 1, none⟩ (.int .i64 y)).setCell ⟨rb, i * 3 + 2, none⟩ (.int .i64 z)) rb cap (R.set i (x, y, z)) := by
  obtain ⟨⟨cur, h1, h2, h5⟩, h3, h4⟩ := h
  refine ⟨⟨((cur.setIfInBounds (i * 3) (.int .i64 x)).setIfInBounds (i * 3 + 1) (.int .i64 y)).setIfInBounds (i * 3 + 2) (.int .i64 z), ?_, by simp [h2], ?_⟩, by simpa using h3, h4⟩
  · simp [World.setCell, Array.getElem?_modify, h1]
  · intro j hj
    have hj' : j < R.length := by simpa using hj
    unfold rid rky
    rw [getD_set _ _ _ _ hi]
    have sz : i * 3 + 2 < cur.size := by omega
    simp only [Array.getElem?_setIfInBounds]
    by_cases e : j = i
    · subst e
      simp
      omega
    · rw [if_neg e]
      rw [if_neg (by omega), if_neg (by omega), if_neg (by omega), if_neg (by omega), if_neg (by omega), if_neg (by omega), if_neg (by omega), if_neg (by omega), if_neg (by omega)]
      exact h5 j hj'

/-- A heap in memory: its object in block hb, its row in rb, its map in mb. -/
structure HeapIs (w : World) (hb rb mb cap : Nat) (fv : Value) (R : List Ent) : Prop where
  obj : Obj3 w hb fv (.slice (some ⟨rb, 0, none⟩) R.length cap) (.map (some mb))
  row : RowAt w rb cap R
  map : ∃ D, MapIs w mb R.length D ∧ Places D R ∧ Maps.size D = R.length
  apart : hb ≠ rb
  small : R.length ≤ 1099511627776
  ids : ∀ i, i < R.length → 0 ≤ rid R i ∧ Is64 (rid R i)
  keys : ∀ i, i < R.length → Is64 (rky R i).1 ∧ Is64 (rky R i).2

theorem HeapIs.mb_ne {w : World} {hb rb mb cap : Nat} {fv : Value} {R : List Ent} (h : HeapIs w hb rb mb cap fv R) : mb ≠ hb ∧ mb ≠ rb := by
  obtain ⟨D, ⟨es, cl, hm, _⟩, _⟩ := h.map
  constructor
  · rintro rfl; rw [h.obj.1] at hm; cases hm
  · rintro rfl; obtain ⟨⟨cur, h1, _⟩, _⟩ := h.row; rw [h1] at hm; cases hm
theorem HeapIs.mb_lt {w : World} {hb rb mb cap : Nat} {fv : Value} {R : List Ent} (h : HeapIs w hb rb mb cap fv R) : mb < w.heap.size := by
  obtain ⟨D, hm, _⟩ := h.map
  exact hm.lt

/-- A heap stays what it is while its three blocks do. -/
theorem HeapIs.keptBy {w w' : World} {hb rb mb cap : Nat} {fv : Value} {R : List Ent} (h : HeapIs w hb rb mb cap fv R) (h1 : w'.heap[hb]? = w.heap[hb]?) (h2 : w'.heap[rb]? = w.heap[rb]?) (h3 : w'.heap[mb]? = w.heap[mb]?) : HeapIs w' hb rb mb cap fv R := by
  obtain ⟨D, hm, hp⟩ := h.map
  exact ⟨h.obj.kept h1, h.row.kept h2, ⟨D, hm.keptBy h3, hp⟩, h.apart, h.small, h.ids, h.keys⟩
theorem HeapIs.kept {w w' : World} {hb rb mb cap : Nat} {fv : Value} {R : List Ent} {S : Nat → Prop} (h : HeapIs w hb rb mb cap fv R) (k : Kept S w w') (h1 : ¬ S hb) (h2 : ¬ S rb) (h3 : ¬ S mb) : HeapIs w' hb rb mb cap fv R :=
  h.keptBy (k.block hb h.obj.lt h1) (k.block rb h.row.lt h2) (k.block mb h.mb_lt h3)
theorem HeapIs.grew {w w' : World} {hb rb mb cap : Nat} {fv : Value} {R : List Ent} (h : HeapIs w hb rb mb cap fv R) (k : Grew w w') : HeapIs w' hb rb mb cap fv R :=
  h.keptBy (k.block h.obj.lt) (k.block h.row.lt) (k.block h.mb_lt)

set_option maxHeartbeats 1000000 in
theorem swap_any (hb rb mb cap : Nat) (fv : Value) (R : List Ent) (a b : Nat) (ha : a < R.length) (hbl : b < R.length) (w : World) (h : HeapIs w hb rb mb cap fv R) :
    Calls Try.prog 94 #[.pointer (some ⟨hb, 0, none⟩), .int .i64 a, .int .i64 b] w fun e w' => e = .returned (.tuple #[]) ∧ HeapIs w' hb rb mb cap fv (swp2 R a b) ∧ Kept (fun k => k = rb ∨ k = mb) w w' := by
  obtain ⟨D, hM, hP, hS⟩ := h.map
  have hne := h.mb_ne
  have hsm := h.small
  have key : ∀ w' : World, MapIs w' mb (R.length + 2) ((D.put (.int .i64 (rid R b)) (.lit (.int .i64 a))).put (.int .i64 (rid R a)) (.lit (.int .i64 b))) →
      ((((((w.setCell ⟨rb, a * 3, none⟩ (.int .i64 (rid R b))).setCell ⟨rb, a * 3 + 1, none⟩ (.int .i64 (rky R b).1)).setCell ⟨rb, a * 3 + 2, none⟩ (.int .i64 (rky R b).2)).setCell ⟨rb, b * 3, none⟩ (.int .i64 (rid R a))).setCell ⟨rb, b * 3 + 1, none⟩ (.int .i64 (rky R a).1)).setCell ⟨rb, b * 3 + 2, none⟩ (.int .i64 (rky R a).2)).grownBy w' (some mb) →
      HeapIs w' hb rb mb cap fv (swp2 R a b) ∧ Kept (fun k => k = rb ∨ k = mb) w w' := fun w' hM' hg => by
    have hrow := (h.row.set2 ha (rid R b) (rky R b).1 (rky R b).2).set2 (i := b) (by simpa using hbl) (rid R a) (rky R a).1 (rky R a).2
    have hk0 : Kept (fun k => k = rb ∨ k = mb) w ((((((w.setCell ⟨rb, a * 3, none⟩ (.int .i64 (rid R b))).setCell ⟨rb, a * 3 + 1, none⟩ (.int .i64 (rky R b).1)).setCell ⟨rb, a * 3 + 2, none⟩ (.int .i64 (rky R b).2)).setCell ⟨rb, b * 3, none⟩ (.int .i64 (rid R a))).setCell ⟨rb, b * 3 + 1, none⟩ (.int .i64 (rky R a).1)).setCell ⟨rb, b * 3 + 2, none⟩ (.int .i64 (rky R a).2)) :=
      ((((((Kept.refl _ w).setCell (.inl (.inl rfl)) _).setCell (.inl (.inl rfl)) _).setCell (.inl (.inl rfl)) _).setCell (.inl (.inl rfl)) _).setCell (.inl (.inl rfl)) _).setCell (.inl (.inl rfl)) _
    have hk : Kept (fun k => k = rb ∨ k = mb) w w' := hk0.grown hg (fun k e => by cases e; exact .inl (.inr rfl))
    have hl := len_swp2 R a b
    have hrd : ∀ j, (swp2 R a b).getD j (0, 0, 0) = if j = b then R.getD a (0, 0, 0) else if j = a then R.getD b (0, 0, 0) else R.getD j (0, 0, 0) := fun j => getD_swp2 R a b j ha hbl
    refine ⟨⟨?_, ?_, ⟨_, ?_, hP.swap hM.isMap ha hbl, ?_⟩, h.apart, by rw [hl]; exact hsm, ?_, ?_⟩, hk⟩
    · rw [hl]
      exact h.obj.kept (hk.block hb h.obj.lt (by rintro (e | e); exact h.apart e; exact hne.1 e.symm))
    · refine RowAt.kept (w := _) hrow (hg.block rb ?_ (by simpa using fun e => hne.2 e.symm))
      exact hrow.lt
    · have := hM'.tight
      rw [hP.swap_size (hM.tidy intKeys) ha hbl, hS] at this
      rw [hl]; exact this
    · rw [hP.swap_size (hM.tidy intKeys) ha hbl, hS, hl]
    · intro i hi
      rw [hl] at hi
      unfold rid
      rw [hrd i]
      split
      · exact h.ids a ha
      · split
        · exact h.ids b hbl
        · exact h.ids i hi
    · intro i hi
      rw [hl] at hi
      unfold rky
      rw [hrd i]
      split
      · exact h.keys a ha
      · split
        · exact h.keys b hbl
        · exact h.keys i hi
  by_cases e : a = b
  · subst e
    refine (swap_self hb rb cap R.length mb a (rid R a) (rky R a).1 (rky R a).2 ha (by unfold maxLen; omega) w R.length D (by unfold maxLen; omega) hM hne.2 (h.ids a ha).2 h.obj.c1 h.obj.c2 (h.row.cell0 ha) (h.row.cell1 ha) (h.row.cell2 ha) h.row.thaw h.apart).mono ?_
    rintro e w' ⟨rfl, hM', hg⟩
    exact ⟨rfl, key w' hM' hg⟩
  · refine (swap_walk hb rb cap R.length mb a b (rid R a) (rky R a).1 (rky R a).2 (rid R b) (rky R b).1 (rky R b).2 ha hbl (by unfold maxLen; omega) e w R.length D (by unfold maxLen; omega) hM hne.2 (h.ids a ha).2 (h.ids b hbl).2 h.obj.c1 h.obj.c2 (h.row.cell0 ha) (h.row.cell1 ha) (h.row.cell2 ha) (h.row.cell0 hbl) (h.row.cell1 hbl) (h.row.cell2 hbl) h.row.thaw h.apart).mono ?_
    rintro e w' ⟨rfl, hM', hg⟩
    exact ⟨rfl, key w' hM' hg⟩
end Go.Proofs.Ytcipilggddpnpaa.K
