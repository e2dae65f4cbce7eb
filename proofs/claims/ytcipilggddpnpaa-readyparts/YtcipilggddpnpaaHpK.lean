/-
  Heap[int] by the order of numbers: a heap by what is in it, and what each call does to that; the law's own example.
-/
import Derived.Test.YtcipilggddpnpaaHpJ
namespace Go.Proofs.Ytcipilggddpnpaa
open Go.RowKit Go.Sort Go.Shelf Go.Maps
set_option linter.unusedVariables false
set_option linter.unusedSimpArgs false

def ltI (x y : Int) : Bool := decide (x < y)
theorem ltI_weak : Hp.Weak ltI := by
  constructor
  · intro x y h; simp [ltI] at *; omega
  · intro x y z h1 h2; simp [ltI] at *; omega
abbrev lessV : Value := .func (.func 8) #[] #[]
theorem less_is : LessIs 8 #[] ltI := by
  refine ⟨enters_of Try.func8 (by kernel_rfl) rfl, fun x y W => ?_⟩
  show Calls Try.prog 8 #[.int .i64 x, .int .i64 y] W _
  go_enter Try.func8, Try.ntmps8
  go_wp2
  go_ret
  exact ⟨rfl, Grew.refl _⟩
/-- a is ahead of b. -/
abbrev ah (a b : Ent) : Bool := ahd ltI a b
theorem ah_weak : Hp.Weak ah := ahd_weak ltI_weak
theorem ah_eq (a b : Ent) : ah a b = decide (a.2 < b.2 ∨ a.2 = b.2 ∧ a.1 < b.1) := by
  unfold ah
  rw [ahd_eq]
  simp only [ltI]
  by_cases h1 : a.2 < b.2
  · simp [h1]
  · by_cases h2 : b.2 < a.2
    · simp [h1, h2]; omega
    · simp [h1, h2]; omega
theorem ah_total {a b : Ent} (h : a.1 ≠ b.1) : ah a b = true ∨ ah b a = true := by
  rw [ah_eq, ah_eq]; simp; omega

/-- A heap of the numbers C with their keys, all of whose blocks are from B on. -/
def Hs (B : Nat) (w : World) (hb mb : Nat) (ro : Option Nat) (C : List Ent) : Prop :=
  ∃ R, R.Perm C ∧ Hp.Heapy ah (gt R) R.length ∧ HP w hb mb ro lessV R ∧ (∀ k, Mine hb mb ro k → B ≤ k)

theorem HP.lt {w : World} {hb mb : Nat} {ro : Option Nat} {fv : Value} {R : List Ent} (h : HP w hb mb ro fv R) : ∀ k, Mine hb mb ro k → k < w.heap.size := by
  intro k hk
  rcases h with ⟨rfl, rfl, hO, hM⟩ | ⟨rb, cap, rfl, h⟩
  · rcases hk with rfl | rfl | e
    · exact hO.lt
    · exact hM.lt
    · cases e
  · rcases hk with rfl | rfl | e
    · exact h.obj.lt
    · exact h.mb_lt
    · cases e; exact h.row.lt
theorem HP.kept {w w' : World} {hb mb : Nat} {ro : Option Nat} {fv : Value} {R : List Ent} {S : Nat → Prop} (h : HP w hb mb ro fv R) (k : Kept S w w') (hs : ∀ b, Mine hb mb ro b → ¬ S b) : HP w' hb mb ro fv R := by
  have hlt := h.lt
  rcases h with ⟨rfl, rfl, hO, hM⟩ | ⟨rb, cap, rfl, h⟩
  · exact .inl ⟨rfl, rfl, hO.kept (k.block hb hO.lt (hs hb (.inl rfl))), hM.keptBy (k.block mb hM.lt (hs mb (.inr (.inl rfl))))⟩
  · exact .inr ⟨rb, cap, rfl, h.kept k (hs hb (.inl rfl)) (hs rb (.inr (.inr rfl))) (hs mb (.inr (.inl rfl)))⟩
theorem Hs.lt {B : Nat} {w : World} {hb mb : Nat} {ro : Option Nat} {C : List Ent} (h : Hs B w hb mb ro C) : ∀ k, Mine hb mb ro k → k < w.heap.size := by
  obtain ⟨R, _, _, h, _⟩ := h
  exact h.lt
theorem Hs.from {B : Nat} {w : World} {hb mb : Nat} {ro : Option Nat} {C : List Ent} (h : Hs B w hb mb ro C) : ∀ k, Mine hb mb ro k → B ≤ k := by
  obtain ⟨R, _, _, _, h⟩ := h
  exact h
theorem Hs.kept {B : Nat} {w w' : World} {hb mb : Nat} {ro : Option Nat} {C : List Ent} {S : Nat → Prop} (h : Hs B w hb mb ro C) (k : Kept S w w') (hs : ∀ b, Mine hb mb ro b → ¬ S b) : Hs B w' hb mb ro C := by
  obtain ⟨R, h1, h2, h3, h4⟩ := h
  exact ⟨R, h1, h2, h3.kept k hs, h4⟩
theorem Hs.grew {B : Nat} {w w' : World} {hb mb : Nat} {ro : Option Nat} {C : List Ent} (h : Hs B w hb mb ro C) (k : Grew w w') : Hs B w' hb mb ro C := h.kept (k.kept (fun _ => False)) (fun _ _ x => x)
theorem Hs.perm {B : Nat} {w : World} {hb mb : Nat} {ro : Option Nat} {C C' : List Ent} (h : Hs B w hb mb ro C) (hp : C.Perm C') : Hs B w hb mb ro C' := by
  obtain ⟨R, h1, h2⟩ := h
  exact ⟨R, h1.trans hp, h2⟩

theorem mem_getD {R : List Ent} {i : Nat} (hi : i < R.length) : R.getD i (0, 0) ∈ R := by
  rw [List.getD_eq_getElem?_getD, List.getElem?_eq_getElem hi]
  exact List.getElem_mem hi
theorem getD_mem {R : List Ent} {x : Ent} (h : x ∈ R) : ∃ i, i < R.length ∧ R.getD i (0, 0) = x := by
  obtain ⟨i, hi, e⟩ := List.getElem_of_mem h
  exact ⟨i, hi, by rw [List.getD_eq_getElem?_getD, List.getElem?_eq_getElem hi]; exact e⟩

/-- What a call leaves: the heap of C, in blocks that it had, or new ones; all else as it was. -/
structure Left (B : Nat) (w w' : World) (hb mb : Nat) (ro ro' : Option Nat) (C : List Ent) : Prop where
  heap : Hs B w' hb mb ro' C
  kept : Kept (Mine hb mb ro) w w'
  moved : ∀ b, ro' = some b → ro = some b ∨ w.heap.size ≤ b

theorem hs_new (B : Nat) (w : World) (hB : B ≤ w.heap.size) :
    Calls Try.prog 7 #[lessV] w fun e w' => ∃ hb mb, e = .returned (.tuple #[.pointer (some ⟨hb, 0, none⟩), .int .i64 0]) ∧ Hs B w' hb mb none [] ∧ Grew w w' ∧ w.heap.size ≤ hb ∧ w.heap.size ≤ mb := by
  refine (new_any 8 #[] w).mono ?_
  rintro e w' ⟨rfl, h, hg⟩
  refine ⟨_, _, rfl, ⟨[], List.Perm.refl _, fun i _ hi => absurd hi (Nat.not_lt_zero _), h, ?_⟩, hg, by omega, Nat.le_refl _⟩
  rintro k (rfl | rfl | e)
  · omega
  · exact hB
  · cases e

theorem hs_put {B : Nat} {w : World} {hb mb : Nat} {ro : Option Nat} {C : List Ent} (h : Hs B w hb mb ro C) (hB : B ≤ w.heap.size) (id k : Int) (hid : 0 ≤ id ∧ Is64 id) (hk : Is64 k) (hn : ∀ x ∈ C, x.1 ≠ id) (hr : C.length < 1099511627776) :
    Calls Try.prog 10 #[.pointer (some ⟨hb, 0, none⟩), .int .i64 id, .int .i64 k] w fun e w' => e = .returned (.int .i64 0) ∧ ∃ ro', Left B w w' hb mb ro ro' ((id, k) :: C) := by
  obtain ⟨R, h1, h2, h3, h4⟩ := h
  refine (put_new _ _ ltI less_is ltI_weak w hb mb ro R h3 h2 id k hid hk (fun i hi x => hn _ (h1.mem_iff.1 (mem_getD hi)) x) (by rw [h1.length_eq]; exact hr)).mono ?_
  rintro e w' ⟨rfl, ro', R', p1, p2, p3, p4, p5⟩
  refine ⟨rfl, ro', ⟨R', p1.trans (h1.cons _), p2, p3, ?_⟩, p4, p5⟩
  rintro b (rfl | rfl | e)
  · exact h4 _ (.inl rfl)
  · exact h4 _ (.inr (.inl rfl))
  · rcases p5 b e with e | e
    · exact h4 _ (.inr (.inr e))
    · omega

theorem hs_put_there {B : Nat} {w : World} {hb mb : Nat} {ro : Option Nat} {C : List Ent} (h : Hs B w hb mb ro C) (x : Ent) (hx : x ∈ C) (k : Int) :
    Calls Try.prog 10 #[.pointer (some ⟨hb, 0, none⟩), .int .i64 x.1, .int .i64 k] w fun e w' => e = .returned (.int .i64 15) ∧ w = w' := by
  obtain ⟨R, h1, h2, h3, h4⟩ := h
  obtain ⟨i, hi, e⟩ := getD_mem (h1.mem_iff.2 hx)
  rw [← e]
  exact put_there w hb mb ro lessV R h3 i hi k

theorem hs_len {B : Nat} {w : World} {hb mb : Nat} {ro : Option Nat} {C : List Ent} (h : Hs B w hb mb ro C) :
    Calls Try.prog 13 #[.pointer (some ⟨hb, 0, none⟩)] w fun e w' => e = .returned (.int .i64 C.length) ∧ w = w' := by
  obtain ⟨R, h1, h2, h3, h4⟩ := h
  have := len_any w hb mb ro lessV R h3
  rwa [h1.length_eq] at this

theorem hs_take_nil {B : Nat} {w : World} {hb mb : Nat} {ro : Option Nat} (h : Hs B w hb mb ro []) :
    Calls Try.prog 32 #[.pointer (some ⟨hb, 0, none⟩)] w fun e w' => e = .returned (.tuple #[.int .i64 0, .int .i64 0, .int .i64 14]) ∧ Grew w w' := by
  obtain ⟨R, h1, h2, h3, h4⟩ := h
  exact take_none w hb mb ro lessV R h3 h1.length_eq

/-- The least of them. -/
theorem Hs.first {w : World} {hb mb : Nat} {ro : Option Nat} {R C : List Ent} (h1 : R.Perm C) (h2 : Hp.Heapy ah (gt R) R.length) {m : Ent} (hm : m ∈ C) (hmin : ∀ y ∈ C, y ≠ m → ah m y = true) : 0 < R.length ∧ R.getD 0 (0, 0) = m := by
  obtain ⟨i, hi, e⟩ := getD_mem (h1.mem_iff.2 hm)
  refine ⟨by omega, ?_⟩
  by_cases x : R.getD 0 (0, 0) = m
  · exact x
  · have a := hmin _ (h1.mem_iff.1 (mem_getD (show 0 < R.length by omega))) x
    have b := h2.least ah_weak i hi
    have c : gt R i = m := e
    rw [c] at b
    have d : ah m (gt R 0) = true := a
    rw [d] at b
    cases b
theorem HP.row {w : World} {hb mb : Nat} {ro : Option Nat} {fv : Value} {R : List Ent} (h : HP w hb mb ro fv R) (h0 : 0 < R.length) : ∃ rb cap, ro = some rb ∧ HeapIs w hb rb mb cap fv R := by
  rcases h with ⟨rfl, rfl, hO, hM⟩ | h
  · exact absurd h0 (Nat.not_lt_zero _)
  · exact h

theorem hs_take {B : Nat} {w : World} {hb mb : Nat} {ro : Option Nat} {C : List Ent} (h : Hs B w hb mb ro C) (m : Ent) (hm : m ∈ C) (hmin : ∀ y ∈ C, y ≠ m → ah m y = true) :
    Calls Try.prog 32 #[.pointer (some ⟨hb, 0, none⟩)] w fun e w' => e = .returned (.tuple #[.int .i64 m.1, .int .i64 m.2, .int .i64 0]) ∧ Left B w w' hb mb ro ro (C.erase m) := by
  obtain ⟨R, h1, h2, h3, h4⟩ := h
  obtain ⟨h0, he⟩ := Hs.first (w := w) (hb := hb) (mb := mb) (ro := ro) h1 h2 hm hmin
  obtain ⟨rb, cap, rfl, hh⟩ := h3.row h0
  refine (take_some _ _ ltI less_is ltI_weak w hb mb rb cap R hh h2 h0).mono ?_
  rintro e w' ⟨rfl, R', p1, p2, p3, p4⟩
  have i1 : rid R 0 = m.1 := by unfold rid; rw [he]
  have i2 : rky R 0 = m.2 := by unfold rky; rw [he]
  refine ⟨by rw [i1, i2], ⟨R', ?_, p2, .inr ⟨rb, cap, rfl, p3⟩, h4⟩, p4, fun b e => .inl e⟩
  rw [he] at p1
  exact List.Perm.cons_inv ((p1.trans h1).trans (List.perm_cons_erase hm))

theorem Left.below {B : Nat} {w w' : World} {hb mb : Nat} {ro ro' : Option Nat} {C C' : List Ent} (h : Left B w w' hb mb ro ro' C') (h0 : Hs B w hb mb ro C) (hB : B ≤ w.heap.size) : Below B w w' := h.kept.below hB h0.from

set_option maxHeartbeats 4000000 in
set_option maxRecDepth 20000 in
theorem awake3 (w : World) : Calls Try.prog 9 #[] w fun e w' => e = .returned (.bool true) ∧ Below w.heap.size w w' := by
  have C0 := Lib.hid (hs_new w.heap.size w (Nat.le_refl _))
  have n1 : Is64 1 := ⟨by decide, by decide⟩
  have n3 : (0 : Int) ≤ 3 ∧ Is64 3 := ⟨by decide, by decide, by decide⟩
  have n5 : Is64 5 := ⟨by decide, by decide⟩
  have n7 : (0 : Int) ≤ 7 ∧ Is64 7 := ⟨by decide, by decide, by decide⟩
  have n9 : (0 : Int) ≤ 9 ∧ Is64 9 := ⟨by decide, by decide, by decide⟩
  go_enter Try.func9, Try.ntmps9
  go_wp2_with (go_at_call 7; refine C0.out.mono ?_; rintro e w0 ⟨hb, mb, rfl, h0, g0, _, _⟩)
  have B0 : Hid (Below w.heap.size w w0) := g0.below
  have z0 := g0.size
  clear g0
  refine (hs_put h0 z0 7 5 n7 n5 (by simp) (by simp)).mono ?_
  rintro e w1 ⟨rfl, r1, l1⟩
  have B1 := Lib.hid (B0.out.trans (l1.below h0 z0))
  have z1 := Nat.le_trans z0 l1.kept.size
  have h1 := l1.heap
  clear h0 l1 B0 z0
  go_wp2_with fail
  refine (hs_put h1 z1 3 5 n3 n5 (by simp) (by simp)).mono ?_
  rintro e w2 ⟨rfl, r2, l2⟩
  have B2 := Lib.hid (B1.out.trans (l2.below h1 z1))
  have z2 := Nat.le_trans z1 l2.kept.size
  have h2 := l2.heap
  clear h1 l2 B1 z1
  go_wp2_with fail
  refine (hs_put h2 z2 9 1 n9 n1 (by simp) (by simp)).mono ?_
  rintro e w3 ⟨rfl, r3, l3⟩
  have B3 := Lib.hid (B2.out.trans (l3.below h2 z2))
  have z3 := Nat.le_trans z2 l3.kept.size
  have h3 := l3.heap
  clear h2 l3 B2 z2
  go_wp2_with fail
  refine (hs_take h3 (9, 1) (by decide) (by decide)).mono ?_
  rintro e w4 ⟨rfl, l4⟩
  have B4 := Lib.hid (B3.out.trans (l4.below h3 z3))
  have z4 := Nat.le_trans z3 l4.kept.size
  have h4 : Hs w.heap.size w4 hb mb r3 [(3, 5), (7, 5)] := l4.heap
  clear h3 l4 B3 z3
  go_wp2_with fail
  refine (hs_take h4 (3, 5) (by decide) (by decide)).mono ?_
  rintro e w5 ⟨rfl, l5⟩
  have B5 := Lib.hid (B4.out.trans (l5.below h4 z4))
  have z5 := Nat.le_trans z4 l5.kept.size
  have h5 : Hs w.heap.size w5 hb mb r3 [(7, 5)] := l5.heap
  clear h4 l5 B4 z4
  go_wp2_with fail
  refine (hs_take h5 (7, 5) (by decide) (by decide)).mono ?_
  rintro e w6 ⟨rfl, l6⟩
  have B6 := Lib.hid (B5.out.trans (l6.below h5 z5))
  have h6 : Hs w.heap.size w6 hb mb r3 [] := l6.heap
  clear h5 l6 B5 z5
  go_wp2_with fail
  refine (hs_len h6).mono ?_
  rintro e w7 ⟨rfl, rfl⟩
  go_wp2
  go_ret
  exact ⟨rfl, B6.out⟩
end Go.Proofs.Ytcipilggddpnpaa
