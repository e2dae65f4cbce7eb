/-
  HeapTakes: the two heaps through both loops, without the walk.
-/
import Derived.Test.YtcipilggddpnpaaHpK
import Derived.Test.YtcipilggddpnpaaIsRow
namespace Go.Proofs.Ytcipilggddpnpaa
open Go.RowKit Go.Sort Go.Shelf Go.Maps
set_option linter.unusedVariables false
set_option linter.unusedSimpArgs false

/-- The entries of the first i numbers. -/
def entsTo (ys : List Int) : Nat → List Ent
  | 0 => []
  | i + 1 => ((i : Int), ys.getD i 0) :: entsTo ys i
/-- The entries of the i numbers from f on, going round. -/
def rotTo (ys : List Int) (n f : Nat) : Nat → List Ent
  | 0 => []
  | i + 1 => ((((f + i) % n : Nat) : Int), ys.getD ((f + i) % n) 0) :: rotTo ys n f i

theorem len_ents (ys : List Int) : ∀ i, (entsTo ys i).length = i
  | 0 => rfl
  | i + 1 => by simp [entsTo, len_ents ys i]
theorem len_rot (ys : List Int) (n f : Nat) : ∀ i, (rotTo ys n f i).length = i
  | 0 => rfl
  | i + 1 => by simp [rotTo, len_rot ys n f i]
theorem mem_ents {ys : List Int} {x : Ent} : ∀ {i : Nat}, x ∈ entsTo ys i ↔ ∃ j : Nat, j < i ∧ x = ((j : Int), ys.getD j 0)
  | 0 => by simp [entsTo]
  | i + 1 => by
    rw [entsTo, List.mem_cons, mem_ents]
    constructor
    · rintro (rfl | ⟨j, hj, rfl⟩)
      · exact ⟨i, by omega, rfl⟩
      · exact ⟨j, by omega, rfl⟩
    · rintro ⟨j, hj, rfl⟩
      by_cases e : j = i
      · subst e; exact .inl rfl
      · exact .inr ⟨j, by omega, rfl⟩
theorem mem_rot {ys : List Int} {n f : Nat} {x : Ent} : ∀ {i : Nat}, x ∈ rotTo ys n f i ↔ ∃ j : Nat, j < i ∧ x = ((((f + j) % n : Nat) : Int), ys.getD ((f + j) % n) 0)
  | 0 => by simp [rotTo]
  | i + 1 => by
    rw [rotTo, List.mem_cons, mem_rot]
    constructor
    · rintro (rfl | ⟨j, hj, rfl⟩)
      · exact ⟨i, by omega, rfl⟩
      · exact ⟨j, by omega, rfl⟩
    · rintro ⟨j, hj, rfl⟩
      by_cases e : j = i
      · subst e; exact .inl rfl
      · exact .inr ⟨j, by omega, rfl⟩
theorem rot_inj {n f i j : Nat} (hf : f < n) (hi : i < n) (hj : j < n) (h : (f + i) % n = (f + j) % n) : i = j := by
  by_cases a : f + i < n
  · by_cases b : f + j < n
    · rw [Nat.mod_eq_of_lt a, Nat.mod_eq_of_lt b] at h; omega
    · rw [Nat.mod_eq_of_lt a, Nat.mod_eq_sub_mod (by omega), Nat.mod_eq_of_lt (by omega)] at h; omega
  · by_cases b : f + j < n
    · rw [Nat.mod_eq_sub_mod (by omega), Nat.mod_eq_of_lt (by omega), Nat.mod_eq_of_lt b] at h; omega
    · rw [Nat.mod_eq_sub_mod (by omega), Nat.mod_eq_of_lt (by omega), Nat.mod_eq_sub_mod (by omega : n ≤ f + j), Nat.mod_eq_of_lt (by omega)] at h; omega
theorem nodup_ents (ys : List Int) : ∀ i, (entsTo ys i).Nodup
  | 0 => List.nodup_nil
  | i + 1 => by
    rw [entsTo, List.nodup_cons]
    refine ⟨fun h => ?_, nodup_ents ys i⟩
    obtain ⟨j, hj, e⟩ := mem_ents.1 h
    simp only [Prod.mk.injEq] at e
    omega
theorem nodup_rot (ys : List Int) {n f : Nat} (hf : f < n) : ∀ i, i ≤ n → (rotTo ys n f i).Nodup
  | 0, _ => List.nodup_nil
  | i + 1, h => by
    rw [rotTo, List.nodup_cons]
    refine ⟨fun x => ?_, nodup_rot ys hf i (by omega)⟩
    obtain ⟨j, hj, e⟩ := mem_rot.1 x
    simp only [Prod.mk.injEq] at e
    have := rot_inj hf (show i < n by omega) (show j < n by omega) (by omega)
    omega
theorem rot_perm (ys : List Int) {n f : Nat} (hf : f < n) : (rotTo ys n f n).Perm (entsTo ys n) := by
  rw [List.perm_ext_iff_of_nodup (nodup_rot ys hf n (Nat.le_refl _)) (nodup_ents ys n)]
  intro x
  rw [mem_ents, mem_rot]
  constructor
  · rintro ⟨j, hj, rfl⟩
    exact ⟨(f + j) % n, Nat.mod_lt _ (by omega), rfl⟩
  · rintro ⟨j, hj, rfl⟩
    refine ⟨(j + n - f) % n, Nat.mod_lt _ (by omega), ?_⟩
    have : (f + (j + n - f) % n) % n = j := by
      by_cases h : f ≤ j
      · rw [show j + n - f = (j - f) + n by omega, Nat.add_mod_right, Nat.mod_eq_of_lt (show j - f < n by omega), show f + (j - f) = j by omega, Nat.mod_eq_of_lt hj]
      · rw [Nat.mod_eq_of_lt (show j + n - f < n by omega), show f + (j + n - f) = j + n by omega, Nat.add_mod_right, Nat.mod_eq_of_lt hj]
    rw [this]

/-- In order: each is ahead of all behind it. -/
def Sorted (S : List Ent) : Prop := S.Pairwise (fun x y => ah x y = true)

theorem exists_sorted (C : List Ent) (hC : C.Pairwise (fun x y => x.1 ≠ y.1)) : ∃ S, S.Perm C ∧ Sorted S := by
  refine ⟨C.mergeSort (fun x y => !ah y x), List.mergeSort_perm _ _, ?_⟩
  have h1 := List.pairwise_mergeSort (le := fun x y => !ah y x) (fun a b c h1 h2 => by simp at *; exact ah_weak.ntr _ _ _ h2 h1) (fun a b => by
    simp
    cases h : ah b a
    · exact .inl rfl
    · exact .inr (ah_weak.asym _ _ h)) C
  have h2 : (C.mergeSort (fun x y => !ah y x)).Pairwise (fun x y => x.1 ≠ y.1) := ((List.mergeSort_perm C (fun x y => !ah y x)).pairwise_iff (fun {a b} (h : a.1 ≠ b.1) => h.symm)).2 hC
  unfold Sorted
  have h3 := h1.and h2
  refine h3.imp ?_
  rintro a b ⟨h, hne⟩
  rcases ah_total hne with h' | h'
  · exact h'
  · rw [h'] at h; cases h

theorem ents_pairwise (ys : List Int) : ∀ i, (entsTo ys i).Pairwise (fun x y => x.1 ≠ y.1)
  | 0 => List.Pairwise.nil
  | i + 1 => by
    rw [entsTo, List.pairwise_cons]
    refine ⟨fun x hx => ?_, ents_pairwise ys i⟩
    obtain ⟨j, hj, rfl⟩ := mem_ents.1 hx
    simp; omega

/-- Two heaps have no block in common. -/
def Apart (ha ma : Nat) (ra : Option Nat) (hb mb : Nat) (rb : Option Nat) : Prop := ∀ k, Mine ha ma ra k → Mine hb mb rb k → False

theorem Left.apart {B : Nat} {w w' : World} {ha ma hb mb : Nat} {ra ra' rb : Option Nat} {C D : List Ent} (h : Left B w w' ha ma ra ra' C) (hA : Apart ha ma ra hb mb rb) (hD : Hs B w hb mb rb D) : Hs B w' hb mb rb D ∧ Apart ha ma ra' hb mb rb := by
  refine ⟨hD.kept h.kept (fun k h1 h2 => hA k h2 h1), fun k h1 h2 => ?_⟩
  rcases h1 with e | e | e
  · exact hA k (.inl e) h2
  · exact hA k (.inr (.inl e)) h2
  · rcases h.moved k e with e | e
    · exact hA k (.inr (.inr e)) h2
    · have := hD.lt k h2; omega
theorem Apart.symm {ha ma hb mb : Nat} {ra rb : Option Nat} (h : Apart ha ma ra hb mb rb) : Apart hb mb rb ha ma ra := fun k h1 h2 => h k h2 h1

/-- The first loop: i numbers are put into a, j into b. -/
def T1 (w : World) (ha ma hb mb : Nat) (ys : List Int) (n f i j : Nat) (W : World) : Prop :=
  ∃ ra rb, Hs w.heap.size W ha ma ra (entsTo ys i) ∧ Hs w.heap.size W hb mb rb (rotTo ys n f j) ∧ Apart ha ma ra hb mb rb ∧ Below w.heap.size w W

theorem is64_getD {ys : List Int} (h : ∀ z ∈ ys, Is64 z) (i : Nat) : Is64 (ys.getD i 0) := by
  rw [List.getD_eq_getElem?_getD]
  by_cases hi : i < ys.length
  · rw [List.getElem?_eq_getElem hi]; exact h _ (List.getElem_mem hi)
  · rw [List.getElem?_eq_none (by omega)]; exact ⟨by decide, by decide⟩

theorem T1.putA {w W : World} {ha ma hb mb : Nat} {ys : List Int} {n f i j : Nat} (h : T1 w ha ma hb mb ys n f i j W) (hz : ∀ z ∈ ys, Is64 z) (hi : i < 60) :
    Calls Try.prog 10 #[.pointer (some ⟨ha, 0, none⟩), .int .i64 i, .int .i64 (ys.getD i 0)] W fun e w' => e = .returned (.int .i64 0) ∧ T1 w ha ma hb mb ys n f (i + 1) j w' := by
  obtain ⟨ra, rb, h1, h2, h3, h4⟩ := h
  refine (hs_put h1 h4.size i (ys.getD i 0) ⟨by omega, by constructor <;> omega⟩ (is64_getD hz i) (fun x hx e => ?_) (by rw [len_ents]; omega)).mono ?_
  · obtain ⟨j, hj, rfl⟩ := mem_ents.1 hx
    simp at e; omega
  · rintro e w' ⟨rfl, ra', l⟩
    obtain ⟨b1, b2⟩ := l.apart h3 h2
    exact ⟨rfl, ra', rb, l.heap, b1, b2, h4.trans (l.below h1 h4.size)⟩
theorem T1.putB {w W : World} {ha ma hb mb : Nat} {ys : List Int} {n f i j : Nat} (h : T1 w ha ma hb mb ys n f i j W) (hz : ∀ z ∈ ys, Is64 z) (hn : n ≤ 60) (hf : f < n) (hj : j < n) :
    Calls Try.prog 10 #[.pointer (some ⟨hb, 0, none⟩), .int .i64 ((f + j) % n : Nat), .int .i64 (ys.getD ((f + j) % n) 0)] W fun e w' => e = .returned (.int .i64 0) ∧ T1 w ha ma hb mb ys n f i (j + 1) w' := by
  obtain ⟨ra, rb, h1, h2, h3, h4⟩ := h
  have hm : (f + j) % n < n := Nat.mod_lt _ (by omega)
  refine (hs_put h2 h4.size ((f + j) % n : Nat) (ys.getD ((f + j) % n) 0) ⟨by omega, by constructor <;> omega⟩ (is64_getD hz _) (fun x hx e => ?_) (by rw [len_rot]; omega)).mono ?_
  · obtain ⟨i, hi, rfl⟩ := mem_rot.1 hx
    have e' : (f + i) % n = (f + j) % n := Int.ofNat.inj e
    have := rot_inj hf (show i < n by omega) hj e'
    omega
  · rintro e w' ⟨rfl, rb', l⟩
    obtain ⟨b1, b2⟩ := l.apart h3.symm h1
    exact ⟨rfl, ra, rb', b1, l.heap, b2.symm, h4.trans (l.below h2 h4.size)⟩

/-- A row of bools. -/
def SeenAt (W : World) (sb n : Nat) (f : Nat → Bool) : Prop := ∃ cur, W.heap[sb]? = some (.cells cur 4 (0, 0)) ∧ ∀ j, j < n → cur[j]? = some (.bool (f j))
/-- A key in a block of its own. -/
def KeyAt (W : World) (lb : Nat) (t d : Int) : Prop := W.heap[lb]? = some (.cells #[.int .i64 t, .int .i64 d] 37 (0, 0))

theorem SeenAt.kept {W W' : World} {sb n : Nat} {f : Nat → Bool} (h : SeenAt W sb n f) (e : W'.heap[sb]? = W.heap[sb]?) : SeenAt W' sb n f := by
  obtain ⟨cur, h1, h2⟩ := h
  exact ⟨cur, e.trans h1, h2⟩
theorem SeenAt.lt {W : World} {sb n : Nat} {f : Nat → Bool} (h : SeenAt W sb n f) : sb < W.heap.size := by
  obtain ⟨cur, h1, h2⟩ := h
  exact (Array.getElem?_eq_some_iff.1 h1).1
theorem SeenAt.cell {W : World} {sb n : Nat} {f : Nat → Bool} (h : SeenAt W sb n f) {j : Nat} (hj : j < n) : W.cell? ⟨sb, j, none⟩ = some (.bool (f j)) := by
  obtain ⟨cur, h1, h2⟩ := h
  simp [World.cell?, h1, h2 j hj]
theorem SeenAt.thaw {W : World} {sb n : Nat} {f : Nat → Bool} (h : SeenAt W sb n f) (j : Nat) : W.frozen? ⟨sb, j, none⟩ = false := by
  obtain ⟨cur, h1, h2⟩ := h
  simp [World.frozen?, h1]
theorem SeenAt.set {W : World} {sb n : Nat} {f : Nat → Bool} (h : SeenAt W sb n f) {j : Nat} (hj : j < n) : SeenAt (W.setCell ⟨sb, j, none⟩ (.bool true)) sb n (fun k => decide (k = j) || f k) := by
  obtain ⟨cur, h1, h2⟩ := h
  refine ⟨cur.setIfInBounds j (.bool true), by simp [World.setCell, Array.getElem?_modify, h1], fun k hk => ?_⟩
  have hsz : j < cur.size := (Array.getElem?_eq_some_iff.1 (h2 j hj)).1
  rw [Array.getElem?_setIfInBounds]
  by_cases e : j = k
  · subst e; simp [hsz]
  · rw [if_neg e, h2 k hk]
    have : decide (k = j) = false := decide_eq_false (fun x => e x.symm)
    show some (Value.bool (f k)) = some (Value.bool (decide (k = j) || f k))
    rw [this]; rfl
theorem KeyAt.lt {W : World} {lb : Nat} {t d : Int} (h : KeyAt W lb t d) : lb < W.heap.size := (Array.getElem?_eq_some_iff.1 h).1
theorem KeyAt.c0 {W : World} {lb : Nat} {t d : Int} (h : KeyAt W lb t d) : W.cell? ⟨lb, 0, none⟩ = some (.int .i64 t) := by simp [World.cell?, show W.heap[lb]? = _ from h]
theorem KeyAt.c1 {W : World} {lb : Nat} {t d : Int} (h : KeyAt W lb t d) : W.cell? ⟨lb, 1, none⟩ = some (.int .i64 d) := by simp [World.cell?, show W.heap[lb]? = _ from h]
theorem KeyAt.thaw {W : World} {lb : Nat} {t d : Int} (h : KeyAt W lb t d) (o : Nat) : W.frozen? ⟨lb, o, none⟩ = false := by simp [World.frozen?, show W.heap[lb]? = _ from h]
theorem KeyAt.set {W : World} {lb : Nat} {t d : Int} (h : KeyAt W lb t d) (t' d' : Int) : KeyAt ((W.setCell ⟨lb, 0, none⟩ (.int .i64 t')).setCell ⟨lb, 1, none⟩ (.int .i64 d')) lb t' d' := by
  unfold KeyAt at *
  simp [World.setCell, Array.getElem?_modify, h]

/-- The second loop: i numbers were taken of a, j of b; those of m were seen, and (t, d) is the last key. -/
def T2 (w : World) (ha ma hb mb sb lb n : Nat) (S : List Ent) (i j : Nat) (f : Nat → Bool) (t d : Int) (W : World) : Prop :=
  ∃ ra rb, Hs w.heap.size W ha ma ra (S.drop i) ∧ Hs w.heap.size W hb mb rb (S.drop j) ∧ Apart ha ma ra hb mb rb ∧ Below w.heap.size w W ∧ SeenAt W sb n f ∧ KeyAt W lb t d ∧
    (¬ Mine ha ma ra sb ∧ ¬ Mine ha ma ra lb ∧ ¬ Mine hb mb rb sb ∧ ¬ Mine hb mb rb lb) ∧ sb ≠ lb ∧ w.heap.size ≤ sb ∧ w.heap.size ≤ lb

theorem drop_getD {S : List Ent} {i : Nat} (hi : i < S.length) : S.drop i = S.getD i (0, 0) :: S.drop (i + 1) := by
  rw [List.drop_eq_getElem_cons hi, List.getD_eq_getElem?_getD, List.getElem?_eq_getElem hi]; rfl
theorem Sorted.least {S : List Ent} (h : Sorted S) {i : Nat} (hi : i < S.length) : S.getD i (0, 0) ∈ S.drop i ∧ (∀ y ∈ S.drop i, y ≠ S.getD i (0, 0) → ah (S.getD i (0, 0)) y = true) ∧ (S.drop i).erase (S.getD i (0, 0)) = S.drop (i + 1) := by
  have hd := drop_getD hi
  have hp : Sorted (S.drop i) := List.Pairwise.sublist (List.drop_sublist i S) h
  rw [hd] at hp ⊢
  have hq := (List.pairwise_cons.1 hp).1
  refine ⟨by simp, fun y hy hne => ?_, by simp⟩
  rcases List.mem_cons.1 hy with e | e
  · exact absurd e hne
  · exact hq y e

theorem T2.takeA {w W : World} {ha ma hb mb sb lb n : Nat} {S : List Ent} {i j : Nat} {f : Nat → Bool} {t d : Int} (h : T2 w ha ma hb mb sb lb n S i j f t d W) (hS : Sorted S) (hi : i < S.length) :
    Calls Try.prog 32 #[.pointer (some ⟨ha, 0, none⟩)] W fun e w' => e = .returned (.tuple #[.int .i64 (rid S i), .int .i64 (rky S i), .int .i64 0]) ∧ T2 w ha ma hb mb sb lb n S (i + 1) j f t d w' := by
  obtain ⟨ra, rb, h1, h2, h3, h4, h5, h6, ⟨m1, m2, m3, m4⟩, h8⟩ := h
  obtain ⟨l1, l2, l3⟩ := hS.least hi
  refine (hs_take h1 _ l1 l2).mono ?_
  rintro e w' ⟨rfl, l⟩
  rw [l3] at l
  obtain ⟨b1, b2⟩ := l.apart h3 h2
  exact ⟨rfl, ra, rb, l.heap, b1, b2, h4.trans (l.below h1 h4.size), h5.kept (l.kept.block sb h5.lt m1), (l.kept.block lb h6.lt m2).trans h6, ⟨m1, m2, m3, m4⟩, h8⟩
theorem T2.takeB {w W : World} {ha ma hb mb sb lb n : Nat} {S : List Ent} {i j : Nat} {f : Nat → Bool} {t d : Int} (h : T2 w ha ma hb mb sb lb n S i j f t d W) (hS : Sorted S) (hj : j < S.length) :
    Calls Try.prog 32 #[.pointer (some ⟨hb, 0, none⟩)] W fun e w' => e = .returned (.tuple #[.int .i64 (rid S j), .int .i64 (rky S j), .int .i64 0]) ∧ T2 w ha ma hb mb sb lb n S i (j + 1) f t d w' := by
  obtain ⟨ra, rb, h1, h2, h3, h4, h5, h6, ⟨m1, m2, m3, m4⟩, h8⟩ := h
  obtain ⟨l1, l2, l3⟩ := hS.least hj
  refine (hs_take h2 _ l1 l2).mono ?_
  rintro e w' ⟨rfl, l⟩
  rw [l3] at l
  obtain ⟨b1, b2⟩ := l.apart h3.symm h1
  exact ⟨rfl, ra, rb, b1, l.heap, b2.symm, h4.trans (l.below h2 h4.size), h5.kept (l.kept.block sb h5.lt m3), (l.kept.block lb h6.lt m4).trans h6, ⟨m1, m2, m3, m4⟩, h8⟩
theorem T2.grew {w W W' : World} {ha ma hb mb sb lb n : Nat} {S : List Ent} {i j : Nat} {f : Nat → Bool} {t d : Int} (h : T2 w ha ma hb mb sb lb n S i j f t d W) (g : Grew W W') : T2 w ha ma hb mb sb lb n S i j f t d W' := by
  obtain ⟨ra, rb, h1, h2, h3, h4, h5, h6, h7⟩ := h
  exact ⟨ra, rb, h1.grew g, h2.grew g, h3, h4.trans (g.below.mono h4.size), h5.kept (g.block h5.lt), (g.block h6.lt).trans h6, h7⟩
theorem T2.mark {w W : World} {ha ma hb mb sb lb n : Nat} {S : List Ent} {i j : Nat} {f : Nat → Bool} {t d : Int} (h : T2 w ha ma hb mb sb lb n S i j f t d W) {q : Nat} (hq : q < n) (t' d' : Int) :
    T2 w ha ma hb mb sb lb n S i j (fun k => decide (k = q) || f k) t' d' (((W.setCell ⟨sb, q, none⟩ (.bool true)).setCell ⟨lb, 0, none⟩ (.int .i64 t')).setCell ⟨lb, 1, none⟩ (.int .i64 d')) := by
  obtain ⟨ra, rb, h1, h2, h3, h4, h5, h6, ⟨m1, m2, m3, m4⟩, h8, h9, h10⟩ := h
  have k : Kept (fun b => b = sb ∨ b = lb) W (((W.setCell ⟨sb, q, none⟩ (.bool true)).setCell ⟨lb, 0, none⟩ (.int .i64 t')).setCell ⟨lb, 1, none⟩ (.int .i64 d')) :=
    (((Kept.refl _ W).setCell (.inl (.inl rfl)) _).setCell (.inl (.inr rfl)) _).setCell (.inl (.inr rfl)) _
  refine ⟨ra, rb, h1.kept k (fun b hb' hs => ?_), h2.kept k (fun b hb' hs => ?_), h3, h4.trans (k.below h4.size (fun b hb' => ?_)), ?_, ?_, ⟨m1, m2, m3, m4⟩, h8, h9, h10⟩
  · rcases hs with rfl | rfl
    · exact m1 hb'
    · exact m2 hb'
  · rcases hs with rfl | rfl
    · exact m3 hb'
    · exact m4 hb'
  · rcases hb' with rfl | rfl
    · exact h9
    · exact h10
  · refine (h5.set hq).kept ?_
    rw [Below.heap_setCell _ _ _ _ (by exact h8), Below.heap_setCell _ _ _ _ (by exact h8)]
  · exact KeyAt.set (W := W.setCell ⟨sb, q, none⟩ (.bool true)) ((Below.heap_setCell _ _ _ _ (by exact fun e => h8 e.symm)).trans h6) t' d'

set_option maxHeartbeats 1000000 in
/-- api.Key.Before. -/
theorem before_any (a b c d : Int) (w : World) :
    Calls Try.prog 15 #[.agg #[.int .i64 a, .int .i64 b], .agg #[.int .i64 c, .int .i64 d]] w fun e w' => e = .returned (.bool (ah (b, a) (d, c))) ∧ Grew w w' := by
  have hG : Grew w ((w.alloc (.cells #[.int .i64 a, .int .i64 b] 37)).alloc (.cells #[.int .i64 c, .int .i64 d] 37)) := ((Grew.refl w).alloc _).alloc _
  have HG := Lib.hid hG
  clear hG
  by_cases h1 : a < c
  · have e : ah (b, a) (d, c) = true := by rw [ah_eq]; simp [h1]
    rw [e]
    have h1' : decide (a < c) = true := decide_eq_true h1
    go_enter Try.func15, Try.ntmps15
    go_wp2
    go_ret
    exact ⟨rfl, HG.out⟩
  have h1' : decide (a < c) = false := decide_eq_false h1
  by_cases h2 : a = c
  · subst h2
    have e : ah (b, a) (d, a) = decide (b < d) := by rw [ah_eq]; simp
    rw [e]
    go_enter Try.func15, Try.ntmps15
    go_wp2
    go_ret
    exact ⟨rfl, HG.out⟩
  · have e : ah (b, a) (d, c) = false := by rw [ah_eq]; simp [h1, h2]
    have h2' : (a == c) = false := beq_eq_false_iff_ne.2 h2
    rw [e]
    go_enter Try.func15, Try.ntmps15
    go_wp2
    go_ret
    exact ⟨rfl, HG.out⟩
end Go.Proofs.Ytcipilggddpnpaa
