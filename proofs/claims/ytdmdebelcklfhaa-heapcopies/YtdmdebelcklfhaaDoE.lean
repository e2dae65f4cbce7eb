/-
  The law's does: a heap and the reference that hold the same stay the same, and does tells so.
-/
import Derived.Test.YtdmdebelcklfhaaDoB
import Derived.Test.YtdmdebelcklfhaaKin
import Derived.Test.YtdmdebelcklfhaaDoD
import Derived.Test.YtdmdebelcklfhaaSxN
namespace Go.Proofs.Ytdmdebelcklfhaa
open Go.RowKit Go.Sort Go.Shelf Go.Maps
set_option linter.unusedVariables false
set_option linter.unusedSimpArgs false

/-- A heap's blocks: of these types alone. -/
theorem Hs.kinds {B : Nat} {w : World} {hb mb : Nat} {ro : Option Nat} {C : List Ent} (h : Hs B w hb mb ro C) : ∀ k, Mine hb mb ro k → ∃ o, w.heap[k]? = some o ∧ (tyOf o = some 81 ∨ tyOf o = none ∨ tyOf o = some 87) := by
  obtain ⟨R, _, _, h, _⟩ := h
  rintro k hk
  rcases h with ⟨rfl, rfl, hO, ⟨es, cl, hm, _⟩⟩ | ⟨rb, cap, rfl, h⟩
  · rcases hk with rfl | rfl | e
    · exact ⟨_, hO.1, .inl rfl⟩
    · exact ⟨_, hm, .inr (.inl rfl)⟩
    · cases e
  · rcases hk with rfl | rfl | e
    · exact ⟨_, h.obj.1, .inl rfl⟩
    · obtain ⟨D, ⟨es, cl, hm, _⟩, _⟩ := h.map
      exact ⟨_, hm, .inr (.inl rfl)⟩
    · cases e
      obtain ⟨⟨cur, h1, _⟩, _⟩ := h.row
      exact ⟨_, h1, .inr (.inr rfl)⟩

theorem RefIs.keptH {B B' : Nat} {w w' : World} {rf hb mb : Nat} {ro : Option Nat} {L C : List Ent} (h : RefIs B w rf L) (hh : Hs B' w hb mb ro C) (k : Kept (Mine hb mb ro) w w') : RefIs B w' rf L :=
  h.kept k (fun b o hm ho => by
    obtain ⟨o', ho', ht⟩ := hh.kinds b hm
    rw [ho] at ho'
    cases ho'
    rcases ht with e | e | e <;> rw [e] <;> decide)
theorem Hs.keptR {B B' : Nat} {w w' : World} {rf hb mb : Nat} {ro : Option Nat} {L C : List Ent} (h : Hs B w hb mb ro C) (hr : RefIs B' w rf L) (k : Kept (fun k => k = rf) w w') : Hs B w' hb mb ro C :=
  h.kept k (fun b hm e => by
    subst e
    obtain ⟨o', ho', ht⟩ := h.kinds b hm
    obtain ⟨a, cap, h1, h2⟩ := hr
    rw [h1] at ho'
    cases ho'
    rcases ht with e | e | e <;> simp [tyOf] at e)

theorem layR_perm (k : Ent) : ∀ L, (layR k L).Perm (k :: L)
  | [] => List.Perm.refl _
  | x :: r => by
    rw [layR]
    split
    · exact ((layR_perm k r).cons x).trans (List.Perm.swap _ _ _)
    · exact List.Perm.refl _
theorem layR_sorted (k : Ent) : ∀ {L}, Sorted L → (∀ x ∈ L, x.1 ≠ k.1) → Sorted (layR k L)
  | [], _, _ => List.pairwise_singleton _ _
  | x :: r, h, hd => by
    rw [layR]
    have h1 := List.pairwise_cons.1 h
    split
    next ha =>
      refine List.pairwise_cons.2 ⟨fun z hz => ?_, layR_sorted k h1.2 (fun z hz => hd z (List.mem_cons_of_mem _ hz))⟩
      rcases List.mem_cons.1 ((layR_perm k r).mem_iff.1 hz) with rfl | hz
      · exact ha
      · exact h1.1 z hz
    next ha =>
      have hkx : ah k x = true := by
        rcases ah_total (hd x (by simp)) with e | e
        · exact absurd e ha
        · exact e
      refine List.pairwise_cons.2 ⟨fun z hz => ?_, h⟩
      rcases List.mem_cons.1 hz with rfl | hz
      · exact hkx
      · exact ah_weak.tr hkx (h1.1 z hz)
theorem layR_diff (k : Ent) {L : List Ent} (h : Diff L) (hd : ∀ x ∈ L, x.1 ≠ k.1) : Diff (layR k L) :=
  ((layR_perm k L).pairwise_iff (R := fun a b : Ent => a.1 ≠ b.1) (fun {a b} (h : a.1 ≠ b.1) => h.symm)).2 (List.pairwise_cons.2 ⟨fun x hx => (hd x hx).symm, h⟩)
theorem layR_len (k : Ent) (L : List Ent) : (layR k L).length = L.length + 1 := by rw [(layR_perm k L).length_eq]; rfl
theorem erase_perm : ∀ {L : List Ent} {i : Nat}, i < L.length → (L.getD i (0, 0) :: L.eraseIdx i).Perm L
  | x :: r, 0, _ => List.Perm.refl _
  | x :: r, i + 1, h => by
    simp only [List.eraseIdx_cons_succ, List.getD_cons_succ]
    exact (List.Perm.swap _ _ _).trans ((erase_perm (L := r) (by simpa using h)).cons x)
theorem erase_is {L : List Ent} {i : Nat} (hi : i < L.length) : (L.erase (L.getD i (0, 0))).Perm (L.eraseIdx i) :=
  List.Perm.cons_inv ((List.perm_cons_erase (mem_getD hi)).symm.trans (erase_perm hi).symm)
theorem erase_ids {L : List Ent} (h : Diff L) {i : Nat} (hi : i < L.length) : ∀ x ∈ L.eraseIdx i, x.1 ≠ rid L i := by
  have h1 : Diff (L.getD i (0, 0) :: L.eraseIdx i) := ((erase_perm hi).pairwise_iff (R := fun a b : Ent => a.1 ≠ b.1) (fun {a b} (h : a.1 ≠ b.1) => h.symm)).2 h
  intro x hx e
  exact (List.pairwise_cons.1 h1).1 x hx e.symm

/-- A heap and the reference that hold the same. -/
structure Pr (B : Nat) (W : World) (hb mb : Nat) (ro : Option Nat) (rf : Nat) (L : List Ent) : Prop where
  heap : Hs B W hb mb ro L
  ref : RefIs B W rf L
  sorted : Sorted L
  diff : Diff L
  ok : ∀ x ∈ L, (0 ≤ x.1 ∧ Is64 x.1) ∧ Is64 x.2
  base : B ≤ W.heap.size
  rb : B ≤ rf

/-- What one call leaves. -/
def Did (B : Nat) (W : World) (hb mb : Nat) (ro : Option Nat) (rf : Nat) (L : List Ent) (W' : World) : Prop :=
  ∃ ro' L', Pr B W' hb mb ro' rf L' ∧ L'.length ≤ L.length + 1 ∧ Kept (fun k => Mine hb mb ro k ∨ k = rf) W W' ∧ ∀ b, ro' = some b → ro = some b ∨ W.heap.size ≤ b

theorem Pr.grew {B : Nat} {W W' : World} {hb mb : Nat} {ro : Option Nat} {rf : Nat} {L : List Ent} (h : Pr B W hb mb ro rf L) (g : Grew W W') : Pr B W' hb mb ro rf L :=
  ⟨h.heap.grew g, h.ref.grew g, h.sorted, h.diff, h.ok, Nat.le_trans h.base g.size, h.rb⟩
theorem Pr.did {B : Nat} {W W' : World} {hb mb : Nat} {ro : Option Nat} {rf : Nat} {L : List Ent} (h : Pr B W hb mb ro rf L) (g : Grew W W') : Did B W hb mb ro rf L W' :=
  ⟨ro, L, h.grew g, by omega, g.kept _, fun b e => .inl e⟩
/-- The heap has turned, then the reference. -/
theorem Pr.both {B : Nat} {W W0 W1 W2 : World} {hb mb : Nat} {ro ro' : Option Nat} {rf : Nat} {L C L' : List Ent} (h : Pr B W hb mb ro rf L) (g : Grew W W0) (l : Left B W0 W1 hb mb ro ro' C) (hr : RefIs B W2 rf L') (k : Kept (fun k => k = rf) W1 W2)
    (hp : C.Perm L') (hs : Sorted L') (hd : Diff L') (hok : ∀ x ∈ L', (0 ≤ x.1 ∧ Is64 x.1) ∧ Is64 x.2) (hl : L'.length ≤ L.length + 1) : Did B W hb mb ro rf L W2 := by
  have hr1 : RefIs B W1 rf L := (h.ref.grew g).keptH (h.heap.grew g) l.kept
  have k1 : Kept (fun k => Mine hb mb ro k ∨ k = rf) W W1 := (g.kept _).trans (l.kept.mono (fun _ _ x => .inl x))
  refine ⟨ro', L', ⟨(l.heap.perm hp).keptR hr1 k, hr, hs, hd, hok, ?_, h.rb⟩, hl, k1.trans (k.mono (fun _ _ x => .inr x)), fun b e => ?_⟩
  · have := h.base; have := g.size; have := l.kept.size; have := k.size; omega
  · rcases l.moved b e with e | e
    · exact .inl e
    · right; have := g.size; omega
theorem OpAt.kept {S : Nat → Prop} {W0 W1 : World} {b : Nat} {q y x : Int} (h : OpAt W0 b q y x) (hb : b < W0.heap.size) (k : Kept S W0 W1) (hs : ¬ S b) : OpAt W1 b q y x :=
  ⟨(k.cell hb hs).trans h.1, (k.cell hb hs).trans h.2.1, (k.cell hb hs).trans h.2.2⟩
theorem cell_lt3 {W : World} {b o : Nat} {v : Value} (h : W.cell? ⟨b, o, none⟩ = some v) : b < W.heap.size := by
  unfold World.cell? at h
  cases e : W.heap[b]? with
  | none => simp [e] at h
  | some x => exact (Array.getElem?_eq_some_iff.1 e).1
theorem OpAt.lt {W0 : World} {b : Nat} {q y x : Int} (h : OpAt W0 b q y x) : b < W0.heap.size := cell_lt3 h.1
theorem Hs.old {B : Nat} {w : World} {hb mb : Nat} {ro : Option Nat} {C : List Ent} (h : Hs B w hb mb ro C) {b : Nat} (hb' : w.heap.size ≤ b) : ¬ Mine hb mb ro b := fun m => by have := h.lt b m; omega

/-- Is a number there? -/
theorem there_or (L : List Ent) (x : Int) : (∃ i, i < L.length ∧ rid L i = x) ∨ ∀ z ∈ L, z.1 ≠ x := by
  by_cases h : ∃ z ∈ L, z.1 = x
  · obtain ⟨z, hz, e⟩ := h
    obtain ⟨i, hi, e2⟩ := getD_mem hz
    exact .inl ⟨i, hi, by unfold rid; rw [e2]; exact e⟩
  · exact .inr (fun z hz e => h ⟨z, hz, e⟩)

theorem does_any_put (B : Nat) (W : World) (hb mb : Nat) (ro : Option Nat) (rf : Nat) (L : List Ent) (h : Pr B W hb mb ro rf L) (hl : L.length < 1099511627775) (y x : Int) (hy : Is64 y) (hx : Is64 x) :
    Calls Try.prog 15 #[.pointer (some ⟨hb, 0, none⟩), .pointer (some ⟨rf, 0, none⟩), opV 0 y x] W fun e w' => e = .returned (.bool true) ∧ Did B W hb mb ro rf L w' := by
  by_cases hx0 : x < 0
  · refine does_put hb rf y x 1 (fun w1 => OpGrew W 0 y x w1) _ W (fun W0 g => (put_neg W0 hb x y hx0).mono ?_) (fun w' g => g.2) (fun w1 g => (refPut_neg w1 rf x y hx0).mono ?_)
    · rintro e w' ⟨rfl, rfl⟩; exact ⟨rfl, g⟩
    · rintro e w' ⟨rfl, g2⟩; exact ⟨rfl, h.did (g.1.trans g2)⟩
  · rcases there_or L x with ⟨i, hi, rfl⟩ | hn
    · refine does_put hb rf y (rid L i) 15 (fun w1 => OpGrew W 0 y (rid L i) w1) _ W (fun W0 g => (hs_put_there (h.heap.grew g.1) _ (mem_getD hi) y).mono ?_) (fun w' g => g.2) (fun w1 g => (refPut_there B w1 rf L (by omega) (h.ref.grew g.1) _ y hx0 i (h.diff.find hi)).mono ?_)
      · rintro e w' ⟨rfl, rfl⟩; exact ⟨rfl, g⟩
      · rintro e w' ⟨rfl, g2⟩; exact ⟨rfl, h.did (g.1.trans g2)⟩
    · refine does_put hb rf y x 0 (fun w1 => ∃ W0 ro', OpGrew W 0 y x W0 ∧ Left B W0 w1 hb mb ro ro' ((x, y) :: L)) _ W (fun W0 g => (hs_put (h.heap.grew g.1) (Nat.le_trans h.base g.1.size) x y ⟨by omega, hx⟩ hy hn (by omega)).mono ?_) ?_ ?_
      · rintro e w' ⟨rfl, ro', l⟩; exact ⟨rfl, W0, ro', g, l⟩
      · rintro w' ⟨W0, ro', g, l⟩
        exact g.2.kept g.2.lt l.kept (h.heap.old (Nat.le_refl _))
      · rintro w1 ⟨W0, ro', g, l⟩
        have hr1 := (h.ref.grew g.1).keptH (h.heap.grew g.1) l.kept
        have hB1 : B ≤ w1.heap.size := by have := h.base; have := g.1.size; have := l.kept.size; omega
        refine (refPut_new B w1 rf L (by omega) hB1 hr1 x y hx0 (findR_no hn)).mono ?_
        rintro e w' ⟨rfl, p1, p2⟩
        refine ⟨rfl, h.both g.1 l p1 p2 (layR_perm _ _).symm (layR_sorted _ h.sorted hn) (layR_diff _ h.diff hn) (fun z hz => ?_) (by rw [layR_len]; omega)⟩
        rcases List.mem_cons.1 ((layR_perm _ _).mem_iff.1 hz) with rfl | hz
        · exact ⟨⟨by omega, hx⟩, hy⟩
        · exact h.ok z hz

theorem does_any_change (B : Nat) (W : World) (hb mb : Nat) (ro : Option Nat) (rf : Nat) (L : List Ent) (h : Pr B W hb mb ro rf L) (hl : L.length < 1099511627775) (y x : Int) (hy : Is64 y) (hx : Is64 x) :
    Calls Try.prog 15 #[.pointer (some ⟨hb, 0, none⟩), .pointer (some ⟨rf, 0, none⟩), opV 1 y x] W fun e w' => e = .returned (.bool true) ∧ Did B W hb mb ro rf L w' := by
  rcases there_or L x with ⟨i, hi, rfl⟩ | hn
  · refine does_change hb rf y (rid L i) 0 (fun w1 => ∃ W0, OpGrew W 1 y (rid L i) W0 ∧ Left B W0 w1 hb mb ro ro ((rid L i, y) :: L.erase (L.getD i (0, 0)))) _ W (fun W0 g => (hs_change (h.heap.grew g.1) _ (mem_getD hi) y hy).mono ?_) ?_ ?_
    · rintro e w' ⟨rfl, l⟩; exact ⟨rfl, W0, g, l⟩
    · rintro w' ⟨W0, g, l⟩
      exact g.2.kept g.2.lt l.kept (h.heap.old (Nat.le_refl _))
    · rintro w1 ⟨W0, g, l⟩
      have hr1 := (h.ref.grew g.1).keptH (h.heap.grew g.1) l.kept
      have hB1 : B ≤ w1.heap.size := by have := h.base; have := g.1.size; have := l.kept.size; omega
      refine (refChange_there B w1 rf L (by omega) hB1 hr1 _ y i hi (h.diff.find hi)).mono ?_
      rintro e w' ⟨rfl, p1, p2⟩
      have hd2 : Diff (L.eraseIdx i) := List.Pairwise.sublist (List.eraseIdx_sublist _ _) h.diff
      refine ⟨rfl, h.both g.1 l p1 p2 (((erase_is hi).cons _).trans (layR_perm _ _).symm) (layR_sorted _ (List.Pairwise.sublist (List.eraseIdx_sublist _ _) h.sorted) (erase_ids h.diff hi)) (layR_diff _ hd2 (erase_ids h.diff hi)) (fun z hz => ?_) (by rw [layR_len, List.length_eraseIdx, if_pos hi]; omega)⟩
      rcases List.mem_cons.1 ((layR_perm _ _).mem_iff.1 hz) with rfl | hz
      · exact ⟨(h.ok _ (mem_getD hi)).1, hy⟩
      · exact h.ok z (List.mem_of_mem_eraseIdx hz)
  · refine does_change hb rf y x 14 (fun w1 => OpGrew W 1 y x w1) _ W (fun W0 g => (hs_change_none (h.heap.grew g.1) x y hx hn).mono ?_) (fun w' g => g.2) (fun w1 g => (refChange_none B w1 rf L (by omega) (h.ref.grew g.1) x y (findR_no hn)).mono ?_)
    · rintro e w' ⟨rfl, rfl⟩; exact ⟨rfl, g⟩
    · rintro e w' ⟨rfl, g2⟩; exact ⟨rfl, h.did (g.1.trans g2)⟩

theorem does_any_drop (B : Nat) (W : World) (hb mb : Nat) (ro : Option Nat) (rf : Nat) (L : List Ent) (h : Pr B W hb mb ro rf L) (hl : L.length < 1099511627775) (y x : Int) (hx : Is64 x) :
    Calls Try.prog 15 #[.pointer (some ⟨hb, 0, none⟩), .pointer (some ⟨rf, 0, none⟩), opV 2 y x] W fun e w' => e = .returned (.bool true) ∧ Did B W hb mb ro rf L w' := by
  rcases there_or L x with ⟨i, hi, rfl⟩ | hn
  · refine does_drop hb rf y (rid L i) (rky L i) 0 (fun w1 => ∃ W0, OpGrew W 2 y (rid L i) W0 ∧ Left B W0 w1 hb mb ro ro (L.erase (L.getD i (0, 0)))) _ W (fun W0 g => (hs_drop (h.heap.grew g.1) _ (mem_getD hi)).mono ?_) ?_ ?_
    · rintro e w' ⟨rfl, l⟩; exact ⟨rfl, W0, g, l⟩
    · rintro w' ⟨W0, g, l⟩
      exact g.2.kept g.2.lt l.kept (h.heap.old (Nat.le_refl _))
    · rintro w1 ⟨W0, g, l⟩
      have hr1 := (h.ref.grew g.1).keptH (h.heap.grew g.1) l.kept
      have hB1 : B ≤ w1.heap.size := by have := h.base; have := g.1.size; have := l.kept.size; omega
      refine (refDrop_there B w1 rf L (by omega) hB1 hr1 _ i hi (h.diff.find hi)).mono ?_
      rintro e w' ⟨rfl, p1, p2⟩
      exact ⟨rfl, h.both g.1 l p1 p2 (erase_is hi) (List.Pairwise.sublist (List.eraseIdx_sublist _ _) h.sorted) (List.Pairwise.sublist (List.eraseIdx_sublist _ _) h.diff) (fun z hz => h.ok z (List.mem_of_mem_eraseIdx hz)) (by rw [List.length_eraseIdx, if_pos hi]; omega)⟩
  · refine does_drop hb rf y x 0 14 (fun w1 => OpGrew W 2 y x w1) _ W (fun W0 g => (hs_drop_none (h.heap.grew g.1) x hx hn).mono ?_) (fun w' g => g.2) (fun w1 g => (refDrop_none B w1 rf L (by omega) (h.ref.grew g.1) x (findR_no hn)).mono ?_)
    · rintro e w' ⟨rfl, rfl⟩; exact ⟨rfl, g⟩
    · rintro e w' ⟨rfl, rfl⟩; exact ⟨rfl, h.did g.1⟩

theorem does_any_get (B : Nat) (W : World) (hb mb : Nat) (ro : Option Nat) (rf : Nat) (L : List Ent) (h : Pr B W hb mb ro rf L) (hl : L.length < 1099511627775) (y x : Int) (hx : Is64 x) :
    Calls Try.prog 15 #[.pointer (some ⟨hb, 0, none⟩), .pointer (some ⟨rf, 0, none⟩), opV 3 y x] W fun e w' => e = .returned (.bool true) ∧ Did B W hb mb ro rf L w' := by
  rcases there_or L x with ⟨i, hi, rfl⟩ | hn
  · obtain ⟨g, cap, hb1, hrow, hcap⟩ := h.ref.row (by omega)
    refine (does_get hb rf y (rid L i) (rky L i) i L.length cap g hi (fun w1 => OpGrew W 3 y (rid L i) w1) (fun w1 => OpGrew W 3 y (rid L i) w1) W (fun W0 g => (hs_get (h.heap.grew g.1) _ (mem_getD hi)).mono ?_) (fun w' g => g.2) (fun w1 g => ?_) (fun w1 gw => ?_)).mono ?_
    · rintro e w' ⟨rfl, rfl⟩; exact ⟨rfl, g⟩
    · have := refAt_any B w1 rf L (by omega) (h.ref.grew g.1) (rid L i)
      rw [h.diff.find hi] at this
      refine this.mono ?_
      rintro e w' ⟨rfl, rfl⟩; exact ⟨rfl, g⟩
    · have e1 := (gw.1.block (Array.getElem?_eq_some_iff.1 hb1).1).trans hb1
      exact ⟨by simp [World.cell?, e1], (gw.1.cell hrow.1).trans (hrow.2 _ _ (flatR_get L i hi).1)⟩
    · rintro e w' ⟨rfl, g⟩; exact ⟨rfl, h.did g.1⟩
  · refine (does_get_none hb rf y x (fun w1 => OpGrew W 3 y x w1) (fun w1 => OpGrew W 3 y x w1) W (fun W0 g => (hs_get_none (h.heap.grew g.1) x hx hn).mono ?_) (fun w' g => g.2) (fun w1 g => ?_)).mono ?_
    · rintro e w' ⟨rfl, rfl⟩; exact ⟨rfl, g⟩
    · have := refAt_any B w1 rf L (by omega) (h.ref.grew g.1) x
      rw [findR_no hn] at this
      refine this.mono ?_
      rintro e w' ⟨rfl, rfl⟩; exact ⟨rfl, g⟩
    · rintro e w' ⟨rfl, g⟩; exact ⟨rfl, h.did g.1⟩

theorem OpGrew2.grew {W W0 W1 : World} {q y x v i : Int} (h : OpGrew2 W q y x v i W0) (g : Grew W0 W1) : OpGrew2 W q y x v i W1 := by
  obtain ⟨h1, h2, h3, h4⟩ := h
  have l1 := cell_lt3 h3
  exact ⟨h1.trans g, h2.kept h2.lt (g.kept (fun _ => False)) (fun x => x), (g.cell l1).trans h3, (g.cell l1).trans h4⟩

theorem does_any_peek (B : Nat) (W : World) (hb mb : Nat) (ro : Option Nat) (rf : Nat) (L : List Ent) (h : Pr B W hb mb ro rf L) (q y x : Int) (hq : q ≠ 0 ∧ q ≠ 1 ∧ q ≠ 2 ∧ q ≠ 3 ∧ q ≠ 4) :
    Calls Try.prog 15 #[.pointer (some ⟨hb, 0, none⟩), .pointer (some ⟨rf, 0, none⟩), opV q y x] W fun e w' => e = .returned (.bool true) ∧ Did B W hb mb ro rf L w' := by
  by_cases h0 : 0 < L.length
  · obtain ⟨g, cap, hb1, hrow, hcap⟩ := h.ref.row h0
    obtain ⟨l1, l2, l3⟩ := h.sorted.least h0
    refine (does_peek hb rf q y x (rky L 0) (rid L 0) hq g L.length cap h0 (fun w1 => OpGrew2 W q y x (rky L 0) (rid L 0) w1) W h.ref.lt hrow.1 (by simp [World.cell?, hb1]) (hrow.2 _ _ (flatR_get L 0 h0).1) (hrow.2 _ _ (flatR_get L 0 h0).2) (fun W0 gw => (hs_peek (h.heap.grew gw.1) (L.getD 0 (0, 0)) l1 l2).mono ?_) (fun w' g => g)).mono ?_
    · rintro e w' ⟨rfl, g2⟩; exact ⟨rfl, gw.grew g2⟩
    · rintro e w' ⟨rfl, g⟩; exact ⟨rfl, h.did g.1⟩
  · obtain rfl : L = [] := List.eq_nil_of_length_eq_zero (by omega)
    obtain ⟨a, cap, hb1, _⟩ := h.ref
    refine (does_peek_none hb rf q y x hq a cap (fun w1 => OpGrew2 W q y x 0 0 w1) W h.ref.lt (by simp [World.cell?, hb1]) (fun W0 gw => (hs_peek_nil (h.heap.grew gw.1)).mono ?_) (fun w' g => g)).mono ?_
    · rintro e w' ⟨rfl, g2⟩; exact ⟨rfl, gw.grew g2⟩
    · rintro e w' ⟨rfl, g⟩; exact ⟨rfl, h.did g.1⟩

theorem does_any_take (B : Nat) (W : World) (hb mb : Nat) (ro : Option Nat) (rf : Nat) (L : List Ent) (h : Pr B W hb mb ro rf L) (hl : L.length < 1099511627775) (y x : Int) :
    Calls Try.prog 15 #[.pointer (some ⟨hb, 0, none⟩), .pointer (some ⟨rf, 0, none⟩), opV 4 y x] W fun e w' => e = .returned (.bool true) ∧ Did B W hb mb ro rf L w' := by
  by_cases h0 : 0 < L.length
  · obtain ⟨g, cap, hb1, hrow, hcap⟩ := h.ref.row h0
    obtain ⟨l1, l2, l3⟩ := h.sorted.least h0
    have key : ∀ {S : Nat → Prop} {W0 W1 : World}, OpGrew2 W 4 y x (rky L 0) (rid L 0) W0 → Kept S W0 W1 → ¬ S (W.heap.size + 1) → W1.cell? ⟨W.heap.size + 1, 0, none⟩ = some (.int .i64 (rky L 0)) ∧ W1.cell? ⟨W.heap.size + 1, 1, none⟩ = some (.int .i64 (rid L 0)) := fun gw k hs => by
      obtain ⟨_, _, h3, h4⟩ := gw
      have l1 := cell_lt3 h3
      exact ⟨(k.cell l1 hs).trans h3, (k.cell l1 hs).trans h4⟩
    refine (does_take hb rf y x (rky L 0) (rid L 0) g L.length cap h0 (fun w1 => ∃ W0, OpGrew2 W 4 y x (rky L 0) (rid L 0) W0 ∧ Left B W0 w1 hb mb ro ro (L.erase (L.getD 0 (0, 0))))
      (fun w2 => ∃ W0 w1, OpGrew2 W 4 y x (rky L 0) (rid L 0) W0 ∧ Left B W0 w1 hb mb ro ro (L.erase (L.getD 0 (0, 0))) ∧ RefIs B w2 rf (L.eraseIdx 0) ∧ Kept (fun k => k = rf) w1 w2) W h.ref.lt hrow.1 (by simp [World.cell?, hb1]) (hrow.2 _ _ (flatR_get L 0 h0).1) (hrow.2 _ _ (flatR_get L 0 h0).2) (fun W0 gw => (hs_take (h.heap.grew gw.1) (L.getD 0 (0, 0)) l1 l2).mono ?_) ?_ ?_ ?_).mono ?_
    · rintro e w' ⟨rfl, l⟩; exact ⟨rfl, W0, gw, l⟩
    · rintro w1 ⟨W0, gw, l⟩
      exact key gw l.kept (h.heap.old (by omega))
    · rintro w1 ⟨W0, gw, l⟩
      have hr1 := (h.ref.grew gw.1).keptH (h.heap.grew gw.1) l.kept
      have hB1 : B ≤ w1.heap.size := by have := h.base; have := gw.1.size; have := l.kept.size; omega
      refine (refDrop_there B w1 rf L (by omega) hB1 hr1 _ 0 h0 (h.diff.find h0)).mono ?_
      rintro e w' ⟨rfl, p1, p2⟩
      exact ⟨⟨_, rfl⟩, W0, w1, gw, l, p1, p2⟩
    · rintro w2 ⟨W0, w1, gw, l, p1, p2⟩
      have := h.ref.lt
      exact key gw ((l.kept.mono (fun _ _ x => Or.inl x)).trans (p2.mono (T := fun k => Mine hb mb ro k ∨ k = rf) (fun _ _ x => Or.inr x))) (fun s => by
        rcases s with s | s
        · exact h.heap.old (by omega) s
        · omega)
    · rintro e w2 ⟨rfl, W0, w1, gw, l, p1, p2⟩
      exact ⟨rfl, h.both gw.1 l p1 p2 (erase_is h0) (List.Pairwise.sublist (List.eraseIdx_sublist _ _) h.sorted) (List.Pairwise.sublist (List.eraseIdx_sublist _ _) h.diff) (fun z hz => h.ok z (List.mem_of_mem_eraseIdx hz)) (by rw [List.length_eraseIdx, if_pos h0]; omega)⟩
  · obtain rfl : L = [] := List.eq_nil_of_length_eq_zero (by omega)
    obtain ⟨a, cap, hb1, _⟩ := h.ref
    refine (does_take_none hb rf y x a cap (fun w1 => OpGrew2 W 4 y x 0 0 w1) W h.ref.lt (by simp [World.cell?, hb1]) (fun W0 gw => (hs_take_nil (h.heap.grew gw.1)).mono ?_) (fun w' g => g)).mono ?_
    · rintro e w' ⟨rfl, g2⟩; exact ⟨rfl, gw.grew g2⟩
    · rintro e w' ⟨rfl, g⟩; exact ⟨rfl, h.did g.1⟩

/-- What does answers, and leaves. -/
theorem does_any (B : Nat) (W : World) (hb mb : Nat) (ro : Option Nat) (rf : Nat) (L : List Ent) (h : Pr B W hb mb ro rf L) (hl : L.length < 1099511627775) (q y x : Int) (hy : Is64 y) (hx : Is64 x) :
    Calls Try.prog 15 #[.pointer (some ⟨hb, 0, none⟩), .pointer (some ⟨rf, 0, none⟩), opV q y x] W fun e w' => e = .returned (.bool true) ∧ Did B W hb mb ro rf L w' := by
  by_cases q0 : q = 0
  · subst q0; exact does_any_put B W hb mb ro rf L h hl y x hy hx
  by_cases q1 : q = 1
  · subst q1; exact does_any_change B W hb mb ro rf L h hl y x hy hx
  by_cases q2 : q = 2
  · subst q2; exact does_any_drop B W hb mb ro rf L h hl y x hx
  by_cases q3 : q = 3
  · subst q3; exact does_any_get B W hb mb ro rf L h hl y x hx
  by_cases q4 : q = 4
  · subst q4; exact does_any_take B W hb mb ro rf L h hl y x
  · exact does_any_peek B W hb mb ro rf L h q y x ⟨q0, q1, q2, q3, q4⟩
end Go.Proofs.Ytdmdebelcklfhaa
