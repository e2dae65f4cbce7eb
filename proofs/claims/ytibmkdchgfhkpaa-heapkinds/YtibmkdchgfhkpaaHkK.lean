/-
  Heap[api.Key] by the keys' own order: a heap by what is in it, and what each call does to that.
-/
import Derived.Test.YtibmkdchgfhkpaaHkJ
import Derived.Test.YtibmkdchgfhkpaaHpT
namespace Go.Proofs.Ytibmkdchgfhkpaa.K
open Go.RowKit Go.Sort Go.Shelf Go.Maps
set_option linter.unusedVariables false
set_option linter.unusedSimpArgs false

/-- The order of keys. -/
def ltK (x y : Ky) : Bool := _root_.Go.Proofs.Ytibmkdchgfhkpaa.ah (x.2, x.1) (y.2, y.1)
theorem ltK_weak : Hp.Weak ltK := ⟨fun x y h => _root_.Go.Proofs.Ytibmkdchgfhkpaa.ah_weak.asym _ _ h, fun x y z h1 h2 => _root_.Go.Proofs.Ytibmkdchgfhkpaa.ah_weak.ntr _ _ _ h1 h2⟩
abbrev lessV : Value := .func (.func 19) #[] #[]
theorem less_is : LessIs 19 #[] ltK := by
  refine ⟨enters_of Try.func19 (by kernel_rfl) rfl, fun x y W => ?_⟩
  exact before_any x.1 x.2 y.1 y.2 W
/-- a is ahead of b. -/
abbrev ah (a b : Ent) : Bool := ahd ltK a b
theorem ah_weak : Hp.Weak ah := ahd_weak ltK_weak
theorem ah_eq (a b : Ent) : ah a b = (ltK a.2 b.2 || (!ltK b.2 a.2 && decide (a.1 < b.1))) := ahd_eq ltK a b
theorem ah_total {a b : Ent} (h : a.1 ≠ b.1) : ah a b = true ∨ ah b a = true := by
  rw [ah_eq, ah_eq]
  cases h1 : ltK a.2 b.2
  · cases h2 : ltK b.2 a.2
    · simp; omega
    · simp
  · simp

/-- A heap of the numbers C with their keys, all of whose blocks are from B on. -/
def Hs (B : Nat) (w : World) (hb mb : Nat) (ro : Option Nat) (C : List Ent) : Prop :=
  ∃ R, R.Perm C ∧ Hp.Heapy ah (gt R) R.length ∧ HP w hb mb ro lessV R ∧ (∀ k, Mine hb mb ro k → B ≤ k)

theorem HP.lt {w : World} {hb mb : Nat} {ro : Option Nat} {fv : Value} {R : List Ent} (h : HP w hb mb ro fv R) : ∀ k, Mine hb mb ro k → k < w.heap.size := by
  intro k hk
  rcases h with ⟨rfl, rfl, hO, hM⟩ | ⟨rb, cap, rfl, h⟩
  · rcases hk with rfl | rfl | e
    · exact hO.lt
    · exact hM.lt
    · cases e
  · rcases hk with rfl | rfl | e
    · exact h.obj.lt
    · exact h.mb_lt
    · cases e; exact h.row.lt
theorem HP.kept {w w' : World} {hb mb : Nat} {ro : Option Nat} {fv : Value} {R : List Ent} {S : Nat → Prop} (h : HP w hb mb ro fv R) (k : Kept S w w') (hs : ∀ b, Mine hb mb ro b → ¬ S b) : HP w' hb mb ro fv R := by
  have hlt := h.lt
  rcases h with ⟨rfl, rfl, hO, hM⟩ | ⟨rb, cap, rfl, h⟩
  · exact .inl ⟨rfl, rfl, hO.kept (k.block hb hO.lt (hs hb (.inl rfl))), hM.keptBy (k.block mb hM.lt (hs mb (.inr (.inl rfl))))⟩
  · exact .inr ⟨rb, cap, rfl, h.kept k (hs hb (.inl rfl)) (hs rb (.inr (.inr rfl))) (hs mb (.inr (.inl rfl)))⟩
theorem Hs.lt {B : Nat} {w : World} {hb mb : Nat} {ro : Option Nat} {C : List Ent} (h : Hs B w hb mb ro C) : ∀ k, Mine hb mb ro k → k < w.heap.size := by
  obtain ⟨R, _, _, h, _⟩ := h
  exact h.lt
theorem Hs.from {B : Nat} {w : World} {hb mb : Nat} {ro : Option Nat} {C : List Ent} (h : Hs B w hb mb ro C) : ∀ k, Mine hb mb ro k → B ≤ k := by
  obtain ⟨R, _, _, _, h⟩ := h
  exact h
theorem Hs.kept {B : Nat} {w w' : World} {hb mb : Nat} {ro : Option Nat} {C : List Ent} {S : Nat → Prop} (h : Hs B w hb mb ro C) (k : Kept S w w') (hs : ∀ b, Mine hb mb ro b → ¬ S b) : Hs B w' hb mb ro C := by
  obtain ⟨R, h1, h2, h3, h4⟩ := h
  exact ⟨R, h1, h2, h3.kept k hs, h4⟩
theorem Hs.grew {B : Nat} {w w' : World} {hb mb : Nat} {ro : Option Nat} {C : List Ent} (h : Hs B w hb mb ro C) (k : Grew w w') : Hs B w' hb mb ro C := h.kept (k.kept (fun _ => False)) (fun _ _ x => x)
theorem Hs.perm {B : Nat} {w : World} {hb mb : Nat} {ro : Option Nat} {C C' : List Ent} (h : Hs B w hb mb ro C) (hp : C.Perm C') : Hs B w hb mb ro C' := by
  obtain ⟨R, h1, h2⟩ := h
  exact ⟨R, h1.trans hp, h2⟩

theorem mem_getD {R : List Ent} {i : Nat} (hi : i < R.length) : R.getD i (0, 0, 0) ∈ R := by
  rw [List.getD_eq_getElem?_getD, List.getElem?_eq_getElem hi]
  exact List.getElem_mem hi
theorem getD_mem {R : List Ent} {x : Ent} (h : x ∈ R) : ∃ i, i < R.length ∧ R.getD i (0, 0, 0) = x := by
  obtain ⟨i, hi, e⟩ := List.getElem_of_mem h
  exact ⟨i, hi, by rw [List.getD_eq_getElem?_getD, List.getElem?_eq_getElem hi]; exact e⟩

/-- What a call leaves: the heap of C, in blocks that it had, or new ones; all else as it was. -/
structure Left (B : Nat) (w w' : World) (hb mb : Nat) (ro ro' : Option Nat) (C : List Ent) : Prop where
  heap : Hs B w' hb mb ro' C
  kept : Kept (Mine hb mb ro) w w'
  moved : ∀ b, ro' = some b → ro = some b ∨ w.heap.size ≤ b

theorem hs_new (B : Nat) (w : World) (hB : B ≤ w.heap.size) :
    Calls Try.prog 25 #[lessV] w fun e w' => ∃ hb mb, e = .returned (.tuple #[.pointer (some ⟨hb, 0, none⟩), .int .i64 0]) ∧ Hs B w' hb mb none [] ∧ Grew w w' ∧ w.heap.size ≤ hb ∧ w.heap.size ≤ mb := by
  refine (new_any 19 #[] w).mono ?_
  rintro e w' ⟨rfl, h, hg⟩
  refine ⟨_, _, rfl, ⟨[], List.Perm.refl _, fun i _ hi => absurd hi (Nat.not_lt_zero _), h, ?_⟩, hg, by omega, Nat.le_refl _⟩
  rintro k (rfl | rfl | e)
  · omega
  · exact hB
  · cases e

theorem hs_put {B : Nat} {w : World} {hb mb : Nat} {ro : Option Nat} {C : List Ent} (h : Hs B w hb mb ro C) (hB : B ≤ w.heap.size) (id : Int) (k : Ky) (hid : 0 ≤ id ∧ Is64 id) (hk : Is64 k.1 ∧ Is64 k.2) (hn : ∀ x ∈ C, x.1 ≠ id) (hr : C.length < 1099511627776) :
    Calls Try.prog 26 #[.pointer (some ⟨hb, 0, none⟩), .int .i64 id, kv k] w fun e w' => e = .returned (.int .i64 0) ∧ ∃ ro', Left B w w' hb mb ro ro' ((id, k) :: C) := by
  obtain ⟨R, h1, h2, h3, h4⟩ := h
  refine (put_new _ _ ltK less_is ltK_weak w hb mb ro R h3 h2 id k.1 k.2 hid hk (fun i hi x => hn _ (h1.mem_iff.1 (mem_getD hi)) x) (by rw [h1.length_eq]; exact hr)).mono ?_
  rintro e w' ⟨rfl, ro', R', p1, p2, p3, p4, p5⟩
  refine ⟨rfl, ro', ⟨R', p1.trans (h1.cons _), p2, p3, ?_⟩, p4, p5⟩
  rintro b (rfl | rfl | e)
  · exact h4 _ (.inl rfl)
  · exact h4 _ (.inr (.inl rfl))
  · rcases p5 b e with e | e
    · exact h4 _ (.inr (.inr e))
    · omega

theorem hs_len {B : Nat} {w : World} {hb mb : Nat} {ro : Option Nat} {C : List Ent} (h : Hs B w hb mb ro C) :
    Calls Try.prog 28 #[.pointer (some ⟨hb, 0, none⟩)] w fun e w' => e = .returned (.int .i64 C.length) ∧ w = w' := by
  obtain ⟨R, h1, h2, h3, h4⟩ := h
  have := len_any w hb mb ro lessV R h3
  rwa [h1.length_eq] at this

/-- The least of them. -/
theorem Hs.first {w : World} {hb mb : Nat} {ro : Option Nat} {R C : List Ent} (h1 : R.Perm C) (h2 : Hp.Heapy ah (gt R) R.length) {m : Ent} (hm : m ∈ C) (hmin : ∀ y ∈ C, y ≠ m → ah m y = true) : 0 < R.length ∧ R.getD 0 (0, 0, 0) = m := by
  obtain ⟨i, hi, e⟩ := getD_mem (h1.mem_iff.2 hm)
  refine ⟨by omega, ?_⟩
  by_cases x : R.getD 0 (0, 0, 0) = m
  · exact x
  · have a := hmin _ (h1.mem_iff.1 (mem_getD (show 0 < R.length by omega))) x
    have b := h2.least ah_weak i hi
    have c : gt R i = m := e
    rw [c] at b
    have d : ah m (gt R 0) = true := a
    rw [d] at b
    cases b
theorem HP.row {w : World} {hb mb : Nat} {ro : Option Nat} {fv : Value} {R : List Ent} (h : HP w hb mb ro fv R) (h0 : 0 < R.length) : ∃ rb cap, ro = some rb ∧ HeapIs w hb rb mb cap fv R := by
  rcases h with ⟨rfl, rfl, hO, hM⟩ | h
  · exact absurd h0 (Nat.not_lt_zero _)
  · exact h

theorem hs_take {B : Nat} {w : World} {hb mb : Nat} {ro : Option Nat} {C : List Ent} (h : Hs B w hb mb ro C) (m : Ent) (hm : m ∈ C) (hmin : ∀ y ∈ C, y ≠ m → ah m y = true) :
    Calls Try.prog 27 #[.pointer (some ⟨hb, 0, none⟩)] w fun e w' => e = .returned (.tuple #[.int .i64 m.1, kv m.2, .int .i64 0]) ∧ Left B w w' hb mb ro ro (C.erase m) := by
  obtain ⟨R, h1, h2, h3, h4⟩ := h
  obtain ⟨h0, he⟩ := Hs.first (w := w) (hb := hb) (mb := mb) (ro := ro) h1 h2 hm hmin
  obtain ⟨rb, cap, rfl, hh⟩ := h3.row h0
  refine (take_some _ _ ltK less_is ltK_weak w hb mb rb cap R hh h2 h0).mono ?_
  rintro e w' ⟨rfl, R', p1, p2, p3, p4⟩
  have i1 : rid R 0 = m.1 := by unfold rid; rw [he]
  have i2 : rky R 0 = m.2 := by unfold rky; rw [he]
  refine ⟨by rw [i1, i2], ⟨R', ?_, p2, .inr ⟨rb, cap, rfl, p3⟩, h4⟩, p4, fun b e => .inl e⟩
  rw [he] at p1
  exact List.Perm.cons_inv ((p1.trans h1).trans (List.perm_cons_erase hm))

theorem Left.below {B : Nat} {w w' : World} {hb mb : Nat} {ro ro' : Option Nat} {C C' : List Ent} (h : Left B w w' hb mb ro ro' C') (h0 : Hs B w hb mb ro C) (hB : B ≤ w.heap.size) : Below B w w' := h.kept.below hB h0.from

end Go.Proofs.Ytibmkdchgfhkpaa.K
