/-
  Heap[api.Key] by the keys' own order, or the other way round: a heap by what is in it, and what each call does to that.
-/
import Derived.Test.YtcipilggddpnpaaKhJ
import Derived.Test.YtcipilggddpnpaaKin
namespace Go.Proofs.Ytcipilggddpnpaa.K
open Go.RowKit Go.Sort Go.Shelf Go.Maps
set_option linter.unusedVariables false
set_option linter.unusedSimpArgs false

/-- The order of keys. -/
def ltK (x y : Ky) : Bool := _root_.Go.Proofs.Ytcipilggddpnpaa.ah (x.2, x.1) (y.2, y.1)
theorem ltK_weak : Hp.Weak ltK := ⟨fun x y h => _root_.Go.Proofs.Ytcipilggddpnpaa.ah_weak.asym _ _ h, fun x y z h1 h2 => _root_.Go.Proofs.Ytcipilggddpnpaa.ah_weak.ntr _ _ _ h1 h2⟩
/-- .. the other way round. -/
def ltD (x y : Ky) : Bool := ltK y x
theorem ltD_weak : Hp.Weak ltD := ⟨fun x y h => ltK_weak.asym _ _ h, fun x y z h1 h2 => ltK_weak.ntr _ _ _ h2 h1⟩
abbrev upV : Value := .func (.func 15) #[] #[]
abbrev downV (fb : Nat) : Value := .func (.func 67) #[] #[.pointer (some ⟨fb, 0, none⟩)]
/-- Block fb holds the order that is turned. -/
def FBox (w : World) (fb : Nat) : Prop := w.heap[fb]? = some (.cells #[upV] 85 (0, 0))

/-- fv is the order lt. -/
def OrdIs (w : World) (fv : Value) (lt : Ky → Ky → Bool) : Prop := (fv = upV ∧ lt = ltK) ∨ ∃ fb, fv = downV fb ∧ lt = ltD ∧ FBox w fb
theorem OrdIs.weak {w : World} {fv : Value} {lt : Ky → Ky → Bool} (h : OrdIs w fv lt) : Hp.Weak lt := by
  rcases h with ⟨_, rfl⟩ | ⟨_, _, rfl, _⟩
  · exact ltK_weak
  · exact ltD_weak

/-- A heap's blocks: of these types alone. -/
theorem HP.kinds {w : World} {hb mb : Nat} {ro : Option Nat} {fv : Value} {R : List Ent} (h : HP w hb mb ro fv R) : ∀ k, Mine hb mb ro k → ∃ o, w.heap[k]? = some o ∧ (tyOf o = some 106 ∨ tyOf o = none ∨ tyOf o = some 110) := by
  rintro k hk
  rcases h with ⟨rfl, rfl, hO, ⟨es, cl, hm, _⟩⟩ | ⟨rb, cap, rfl, h⟩
  · rcases hk with rfl | rfl | e
    · exact ⟨_, hO.1, .inl rfl⟩
    · exact ⟨_, hm, .inr (.inl rfl)⟩
    · cases e
  · rcases hk with rfl | rfl | e
    · exact ⟨_, h.obj.1, .inl rfl⟩
    · obtain ⟨D, ⟨es, cl, hm, _⟩, _⟩ := h.map
      exact ⟨_, hm, .inr (.inl rfl)⟩
    · cases e
      obtain ⟨⟨cur, h1, _⟩, _⟩ := h.row
      exact ⟨_, h1, .inr (.inr rfl)⟩

set_option maxHeartbeats 1000000 in
theorem turned_any (fb : Nat) (x y : Ky) (w : World) (h : FBox w fb) :
    Calls Try.prog 67 #[kv x, kv y, .pointer (some ⟨fb, 0, none⟩)] w fun e w' => e = .returned (.bool (ltD x y)) ∧ Grew w w' := by
  obtain ⟨x1, x2⟩ := x
  obtain ⟨y1, y2⟩ := y
  have eg := enters_of (P := Try.prog) Try.func15 (by kernel_rfl) rfl
  obtain ⟨W, hW⟩ : ∃ W, (w.alloc (.cells #[.int .i64 x1, .int .i64 x2] 37)).alloc (.cells #[.int .i64 y1, .int .i64 y2] 37) = W := ⟨_, rfl⟩
  have hG : Grew w W := by rw [← hW]; exact ((Grew.refl w).alloc _).alloc _
  have hlt : fb < w.heap.size := (Array.getElem?_eq_some_iff.1 h).1
  have c0 : W.cell? ⟨fb, 0, none⟩ = some upV := by
    have := (hG.block hlt).trans h
    simp [World.cell?, this]
  have c1 : W.cell? ⟨w.heap.size, 0, none⟩ = some (.int .i64 x1) := by rw [← hW]; simp [go_sem]
  have c2 : W.cell? ⟨w.heap.size, 1, none⟩ = some (.int .i64 x2) := by rw [← hW]; simp [go_sem]
  have c3 : W.cell? ⟨w.heap.size + 1, 0, none⟩ = some (.int .i64 y1) := by rw [← hW]; simp [go_sem]
  have c4 : W.cell? ⟨w.heap.size + 1, 1, none⟩ = some (.int .i64 y2) := by rw [← hW]; simp [go_sem]
  have C : ∀ W', Hid (Calls Try.prog 15 #[.agg #[.int .i64 y1, .int .i64 y2], .agg #[.int .i64 x1, .int .i64 x2]] W' fun e w' => e = .returned (.bool (ltD (x1, x2) (y1, y2))) ∧ Grew W' w') := fun W' => before_any y1 y2 x1 x2 W'
  have HG := Lib.hid hG
  clear hG h hlt
  generalize ltD (x1, x2) (y1, y2) = r at *
  go_enter Try.func67, Try.ntmps67
  go_wp2_with (go_at_call 15; refine (C _).out.mono ?_; rintro e w1 ⟨rfl, g1⟩)
  go_ret
  exact ⟨rfl, HG.out.trans g1⟩

theorem HP.lt {w : World} {hb mb : Nat} {ro : Option Nat} {fv : Value} {R : List Ent} (h : HP w hb mb ro fv R) : ∀ k, Mine hb mb ro k → k < w.heap.size := by
  intro k hk
  obtain ⟨o, ho, _⟩ := h.kinds k hk
  exact (Array.getElem?_eq_some_iff.1 ho).1

theorem FBox.lt {w : World} {fb : Nat} (h : FBox w fb) : fb < w.heap.size := (Array.getElem?_eq_some_iff.1 h).1
theorem FBox.apart {w : World} {hb mb fb : Nat} {ro : Option Nat} {fv : Value} {R : List Ent} (h : FBox w fb) (hp : HP w hb mb ro fv R) : ¬ Mine hb mb ro fb := fun hm => by
  obtain ⟨o, ho, ht⟩ := hp.kinds fb hm
  unfold FBox at h
  rw [h] at ho
  cases ho
  rcases ht with e | e | e <;> simp [tyOf] at e

theorem OrdIs.less {w : World} {hb mb : Nat} {ro : Option Nat} {fv : Value} {lt : Ky → Ky → Bool} {R : List Ent} (h : OrdIs w fv lt) (hp : HP w hb mb ro fv R) (S : Nat → Prop) (hS : ∀ k, S k → Mine hb mb ro k ∨ w.heap.size ≤ k) : ∃ g cb, fv = .func (.func g) #[] cb ∧ LessIs g cb lt w S := by
  rcases h with ⟨rfl, rfl⟩ | ⟨fb, rfl, rfl, hf⟩
  · exact ⟨_, _, rfl, enters_of Try.func15 (by kernel_rfl) rfl, fun x y W _ => before_any x.1 x.2 y.1 y.2 W⟩
  · refine ⟨_, _, rfl, enters_of Try.func67 (by kernel_rfl) rfl, fun x y W k => turned_any fb x y W ?_⟩
    refine (k.block fb hf.lt (fun s => ?_)).trans hf
    rcases hS fb s with x | x
    · exact hf.apart hp x
    · have := hf.lt; omega
theorem OrdIs.kept {w w' : World} {fv : Value} {lt : Ky → Ky → Bool} {S : Nat → Prop} (h : OrdIs w fv lt) (k : Kept S w w') (hS : ∀ b o, S b → w.heap[b]? = some o → tyOf o ≠ some 85) : OrdIs w' fv lt := by
  rcases h with h | ⟨fb, rfl, rfl, hf⟩
  · exact .inl h
  · exact .inr ⟨fb, rfl, rfl, (k.block fb hf.lt (fun s => hS fb _ s hf rfl)).trans hf⟩

/-- A heap, by the order lt, of the numbers C with their keys, all of whose blocks are from B on. -/
structure Hs (fv : Value) (lt : Ky → Ky → Bool) (B : Nat) (w : World) (hb mb : Nat) (ro : Option Nat) (C : List Ent) : Prop where
  rows : ∃ R, R.Perm C ∧ Hp.Heapy (ahd lt) (gt R) R.length ∧ HP w hb mb ro fv R
  base : ∀ k, Mine hb mb ro k → B ≤ k
  ord : OrdIs w fv lt

theorem HP.kept {w w' : World} {hb mb : Nat} {ro : Option Nat} {fv : Value} {R : List Ent} {S : Nat → Prop} (h : HP w hb mb ro fv R) (k : Kept S w w') (hs : ∀ b, Mine hb mb ro b → ¬ S b) : HP w' hb mb ro fv R := by
  rcases h with ⟨rfl, rfl, hO, hM⟩ | ⟨rb, cap, rfl, h⟩
  · exact .inl ⟨rfl, rfl, hO.kept (k.block hb hO.lt (hs hb (.inl rfl))), hM.keptBy (k.block mb hM.lt (hs mb (.inr (.inl rfl))))⟩
  · exact .inr ⟨rb, cap, rfl, h.kept k (hs hb (.inl rfl)) (hs rb (.inr (.inr rfl))) (hs mb (.inr (.inl rfl)))⟩

variable {fv : Value} {lt : Ky → Ky → Bool} {B : Nat} {w w' : World} {hb mb : Nat} {ro : Option Nat} {C : List Ent}

theorem Hs.inside (h : Hs fv lt B w hb mb ro C) : ∀ k, Mine hb mb ro k → k < w.heap.size := by
  obtain ⟨⟨R, _, _, h⟩, _, _⟩ := h
  exact h.lt
theorem Hs.kinds (h : Hs fv lt B w hb mb ro C) : ∀ k, Mine hb mb ro k → ∃ o, w.heap[k]? = some o ∧ (tyOf o = some 106 ∨ tyOf o = none ∨ tyOf o = some 110) := by
  obtain ⟨⟨R, _, _, h⟩, _, _⟩ := h
  exact h.kinds
/-- A heap stays what it is while none of its blocks turns, nor one that holds an order. -/
theorem Hs.kept {S : Nat → Prop} (h : Hs fv lt B w hb mb ro C) (k : Kept S w w') (hs : ∀ b, Mine hb mb ro b → ¬ S b) (hS : ∀ b o, S b → w.heap[b]? = some o → tyOf o ≠ some 85) : Hs fv lt B w' hb mb ro C := by
  obtain ⟨⟨R, h1, h2, h3⟩, h4, h5⟩ := h
  exact ⟨⟨R, h1, h2, h3.kept k hs⟩, h4, h5.kept k hS⟩
theorem Hs.grew (h : Hs fv lt B w hb mb ro C) (k : Grew w w') : Hs fv lt B w' hb mb ro C := h.kept (k.kept (fun _ => False)) (fun _ _ x => x) (fun _ _ x => x.elim)
theorem Hs.perm {C' : List Ent} (h : Hs fv lt B w hb mb ro C) (hp : C.Perm C') : Hs fv lt B w hb mb ro C' := by
  obtain ⟨⟨R, h1, h2, h3⟩, h4, h5⟩ := h
  exact ⟨⟨R, h1.trans hp, h2, h3⟩, h4, h5⟩

theorem mem_getD {R : List Ent} {i : Nat} (hi : i < R.length) : R.getD i (0, 0, 0) ∈ R := by
  rw [List.getD_eq_getElem?_getD, List.getElem?_eq_getElem hi]
  exact List.getElem_mem hi
theorem getD_mem {R : List Ent} {x : Ent} (h : x ∈ R) : ∃ i, i < R.length ∧ R.getD i (0, 0, 0) = x := by
  obtain ⟨i, hi, e⟩ := List.getElem_of_mem h
  exact ⟨i, hi, by rw [List.getD_eq_getElem?_getD, List.getElem?_eq_getElem hi]; exact e⟩

/-- What a call leaves: the heap of C, in blocks that it had, or new ones; all else as it was. -/
structure Left (fv : Value) (lt : Ky → Ky → Bool) (B : Nat) (w w' : World) (hb mb : Nat) (ro ro' : Option Nat) (C : List Ent) : Prop where
  heap : Hs fv lt B w' hb mb ro' C
  kept : Kept (Mine hb mb ro) w w'
  moved : ∀ b, ro' = some b → ro = some b ∨ w.heap.size ≤ b

theorem Hs.mineTy (h : Hs fv lt B w hb mb ro C) : ∀ b o, Mine hb mb ro b → w.heap[b]? = some o → tyOf o ≠ some 85 := fun b o hm ho => by
  obtain ⟨o', ho', ht⟩ := h.kinds b hm
  rw [ho] at ho'
  cases ho'
  rcases ht with e | e | e <;> rw [e] <;> decide

theorem Hs.less (h : Hs fv lt B w hb mb ro C) : ∃ g cb, fv = .func (.func g) #[] cb ∧ LessIs g cb lt w (Mine hb mb ro) := by
  obtain ⟨⟨R, h1, h2, h3⟩, h4, h5⟩ := h
  exact h5.less h3 _ (fun k hk => .inl hk)

theorem hs_new_up (B : Nat) (w : World) (hB : B ≤ w.heap.size) :
    Calls Try.prog 42 #[upV] w fun e w' => ∃ hb mb, e = .returned (.tuple #[.pointer (some ⟨hb, 0, none⟩), .int .i64 0]) ∧ Hs upV ltK B w' hb mb none [] ∧ Grew w w' ∧ w.heap.size ≤ hb ∧ w.heap.size ≤ mb := by
  refine (new_any 15 #[] w).mono ?_
  rintro e w' ⟨rfl, h, hg⟩
  refine ⟨_, _, rfl, ⟨⟨[], List.Perm.refl _, fun i _ hi => absurd hi (Nat.not_lt_zero _), h⟩, ?_, .inl ⟨rfl, rfl⟩⟩, hg, by omega, Nat.le_refl _⟩
  rintro k (rfl | rfl | e)
  · omega
  · exact hB
  · cases e
theorem hs_new_down (B : Nat) (w : World) (hB : B ≤ w.heap.size) (fb : Nat) (hf : FBox w fb) :
    Calls Try.prog 42 #[downV fb] w fun e w' => ∃ hb mb, e = .returned (.tuple #[.pointer (some ⟨hb, 0, none⟩), .int .i64 0]) ∧ Hs (downV fb) ltD B w' hb mb none [] ∧ Grew w w' ∧ w.heap.size ≤ hb ∧ w.heap.size ≤ mb := by
  refine (new_any 67 #[.pointer (some ⟨fb, 0, none⟩)] w).mono ?_
  rintro e w' ⟨rfl, h, hg⟩
  refine ⟨_, _, rfl, ⟨⟨[], List.Perm.refl _, fun i _ hi => absurd hi (Nat.not_lt_zero _), h⟩, ?_, .inr ⟨fb, rfl, rfl, (hg.block hf.lt).trans hf⟩⟩, hg, by omega, Nat.le_refl _⟩
  rintro k (rfl | rfl | e)
  · omega
  · exact hB
  · cases e

theorem hs_put (h : Hs fv lt B w hb mb ro C) (hB : B ≤ w.heap.size) (id : Int) (k : Ky) (hid : 0 ≤ id ∧ Is64 id) (hk : Is64 k.1 ∧ Is64 k.2) (hn : ∀ x ∈ C, x.1 ≠ id) (hr : C.length < 1099511627776) :
    Calls Try.prog 78 #[.pointer (some ⟨hb, 0, none⟩), .int .i64 id, kv k] w fun e w' => e = .returned (.int .i64 0) ∧ ∃ ro', Left fv lt B w w' hb mb ro ro' ((id, k) :: C) := by
  obtain ⟨g, cb, e0, hl⟩ := h.less
  have hty := h.mineTy
  obtain ⟨⟨R, h1, h2, h3⟩, h4, h5⟩ := h
  have hW := h5.weak
  subst e0
  refine (put_new g cb lt w hb mb ro hl hW R h3 h2 id k.1 k.2 hid hk (fun i hi x => hn _ (h1.mem_iff.1 (mem_getD hi)) x) (by rw [h1.length_eq]; exact hr)).mono ?_
  rintro e w' ⟨rfl, ro', R', p1, p2, p3, p4, p5⟩
  refine ⟨rfl, ro', ⟨⟨R', p1.trans (h1.cons _), p2, p3⟩, ?_, h5.kept p4 hty⟩, p4, p5⟩
  rintro b (rfl | rfl | e)
  · exact h4 _ (.inl rfl)
  · exact h4 _ (.inr (.inl rfl))
  · rcases p5 b e with e | e
    · exact h4 _ (.inr (.inr e))
    · omega

theorem hs_put_there (h : Hs fv lt B w hb mb ro C) (x : Ent) (hx : x ∈ C) (k : Ky) :
    Calls Try.prog 78 #[.pointer (some ⟨hb, 0, none⟩), .int .i64 x.1, kv k] w fun e w' => e = .returned (.int .i64 15) ∧ Grew w w' := by
  obtain ⟨⟨R, h1, h2, h3⟩, h4, h5⟩ := h
  obtain ⟨i, hi, e⟩ := getD_mem (h1.mem_iff.2 hx)
  rw [← e]
  exact put_there w hb mb ro fv R h3 i hi k

theorem hs_len (h : Hs fv lt B w hb mb ro C) :
    Calls Try.prog 54 #[.pointer (some ⟨hb, 0, none⟩)] w fun e w' => e = .returned (.int .i64 C.length) ∧ w = w' := by
  obtain ⟨⟨R, h1, h2, h3⟩, h4, h5⟩ := h
  have := len_any w hb mb ro fv R h3
  rwa [h1.length_eq] at this

/-- The least of them. -/
theorem first_is {R C : List Ent} {lt : Ky → Ky → Bool} (hW : Hp.Weak lt) (h1 : R.Perm C) (h2 : Hp.Heapy (ahd lt) (gt R) R.length) {m : Ent} (hm : m ∈ C) (hmin : ∀ y ∈ C, y ≠ m → ahd lt m y = true) : 0 < R.length ∧ R.getD 0 (0, 0, 0) = m := by
  obtain ⟨i, hi, e⟩ := getD_mem (h1.mem_iff.2 hm)
  refine ⟨by omega, ?_⟩
  by_cases x : R.getD 0 (0, 0, 0) = m
  · exact x
  · have a := hmin _ (h1.mem_iff.1 (mem_getD (show 0 < R.length by omega))) x
    have b := h2.least (ahd_weak hW) i hi
    have c : gt R i = m := e
    rw [c] at b
    have d : ahd lt m (gt R 0) = true := a
    rw [d] at b
    cases b
theorem HP.row {R : List Ent} (h : HP w hb mb ro fv R) (h0 : 0 < R.length) : ∃ rb cap, ro = some rb ∧ HeapIs w hb rb mb cap fv R := by
  rcases h with ⟨rfl, rfl, hO, hM⟩ | h
  · exact absurd h0 (Nat.not_lt_zero _)
  · exact h

theorem hs_peek_nil (h : Hs fv lt B w hb mb ro []) :
    Calls Try.prog 55 #[.pointer (some ⟨hb, 0, none⟩)] w fun e w' => e = .returned (.tuple #[.int .i64 0, kv (0, 0), .int .i64 14]) ∧ Grew w w' := by
  obtain ⟨⟨R, h1, h2, h3⟩, h4, h5⟩ := h
  exact peek_none w hb mb ro fv R h3 h1.length_eq
theorem hs_peek (h : Hs fv lt B w hb mb ro C) (m : Ent) (hm : m ∈ C) (hmin : ∀ y ∈ C, y ≠ m → ahd lt m y = true) :
    Calls Try.prog 55 #[.pointer (some ⟨hb, 0, none⟩)] w fun e w' => e = .returned (.tuple #[.int .i64 m.1, kv m.2, .int .i64 0]) ∧ Grew w w' := by
  obtain ⟨⟨R, h1, h2, h3⟩, h4, h5⟩ := h
  obtain ⟨h0, he⟩ := first_is h5.weak h1 h2 hm hmin
  obtain ⟨rb, cap, rfl, hh⟩ := h3.row h0
  have i1 : rid R 0 = m.1 := by unfold rid; rw [he]
  have i2 : rky R 0 = m.2 := by unfold rky; rw [he]
  have hc := peek_some w hb mb rb cap fv R hh h0
  rwa [i1, i2] at hc

theorem hs_get (h : Hs fv lt B w hb mb ro C) (m : Ent) (hm : m ∈ C) :
    Calls Try.prog 57 #[.pointer (some ⟨hb, 0, none⟩), .int .i64 m.1] w fun e w' => e = .returned (.tuple #[kv m.2, .int .i64 0]) ∧ Grew w w' := by
  obtain ⟨⟨R, h1, h2, h3⟩, h4, h5⟩ := h
  obtain ⟨i, hi, he⟩ := getD_mem (h1.mem_iff.2 hm)
  obtain ⟨rb, cap, rfl, hh⟩ := h3.row (by omega)
  have i1 : rid R i = m.1 := by unfold rid; rw [he]
  have i2 : rky R i = m.2 := by unfold rky; rw [he]
  have hc := get_there w hb mb rb cap fv R hh i hi
  rwa [i1, i2] at hc
theorem hs_get_none (h : Hs fv lt B w hb mb ro C) (id : Int) (hid : Is64 id) (hn : ∀ x ∈ C, x.1 ≠ id) :
    Calls Try.prog 57 #[.pointer (some ⟨hb, 0, none⟩), .int .i64 id] w fun e w' => e = .returned (.tuple #[kv (0, 0), .int .i64 14]) ∧ Grew w w' := by
  obtain ⟨⟨R, h1, h2, h3⟩, h4, h5⟩ := h
  exact get_none w hb mb ro fv R h3 id hid (fun i hi x => hn _ (h1.mem_iff.1 (mem_getD hi)) x)

theorem hs_drop (h : Hs fv lt B w hb mb ro C) (m : Ent) (hm : m ∈ C) :
    Calls Try.prog 73 #[.pointer (some ⟨hb, 0, none⟩), .int .i64 m.1] w fun e w' => e = .returned (.tuple #[kv m.2, .int .i64 0]) ∧ Left fv lt B w w' hb mb ro ro (C.erase m) := by
  obtain ⟨g, cb, e0, hl⟩ := h.less
  have hty := h.mineTy
  obtain ⟨⟨R, h1, h2, h3⟩, h4, h5⟩ := h
  have hW := h5.weak
  subst e0
  obtain ⟨i, hi, he⟩ := getD_mem (h1.mem_iff.2 hm)
  obtain ⟨rb, cap, rfl, hh⟩ := h3.row (by omega)
  have i1 : rid R i = m.1 := by unfold rid; rw [he]
  have i2 : rky R i = m.2 := by unfold rky; rw [he]
  have hc := drop_there g cb lt w hb mb rb cap hl hW R hh h2 i hi
  rw [i1, i2] at hc
  refine hc.mono ?_
  rintro e w' ⟨rfl, R', p1, p2, p3, p4⟩
  refine ⟨rfl, ⟨⟨R', ?_, p2, .inr ⟨rb, cap, rfl, p3⟩⟩, h4, h5.kept p4 hty⟩, p4, fun b e => .inl e⟩
  rw [he] at p1
  exact List.Perm.cons_inv ((p1.trans h1).trans (List.perm_cons_erase hm))

theorem perm_set : ∀ (R : List Ent) (i : Nat) (y : Ent), i < R.length → (R.getD i (0, 0, 0) :: R.set i y).Perm (y :: R)
  | x :: r, 0, y, _ => by
    simp only [List.set_cons_zero, List.getD_cons_zero]
    exact List.Perm.swap _ _ _
  | x :: r, i + 1, y, h => by
    simp only [List.set_cons_succ, List.getD_cons_succ]
    have ih := perm_set r i y (by simpa using h)
    exact ((List.Perm.swap _ _ _).trans (ih.cons x)).trans (List.Perm.swap _ _ _)

theorem hs_change (h : Hs fv lt B w hb mb ro C) (m : Ent) (hm : m ∈ C) (y : Ky) (hy : Is64 y.1 ∧ Is64 y.2) :
    Calls Try.prog 59 #[.pointer (some ⟨hb, 0, none⟩), .int .i64 m.1, kv y] w fun e w' => e = .returned (.int .i64 0) ∧ Left fv lt B w w' hb mb ro ro ((m.1, y) :: C.erase m) := by
  obtain ⟨g, cb, e0, hl⟩ := h.less
  have hty := h.mineTy
  obtain ⟨⟨R, h1, h2, h3⟩, h4, h5⟩ := h
  have hW := h5.weak
  subst e0
  obtain ⟨i, hi, he⟩ := getD_mem (h1.mem_iff.2 hm)
  obtain ⟨rb, cap, rfl, hh⟩ := h3.row (by omega)
  have i1 : rid R i = m.1 := by unfold rid; rw [he]
  have hc := change_there g cb lt w hb mb rb cap hl hW R hh h2 i hi y.1 y.2 hy
  rw [i1] at hc
  refine hc.mono ?_
  rintro e w' ⟨rfl, R', p1, p2, p3, p4⟩
  refine ⟨rfl, ⟨⟨R', p1.trans ?_, p2, .inr ⟨rb, cap, rfl, p3⟩⟩, h4, h5.kept p4 hty⟩, p4, fun b e => .inl e⟩
  have hp := perm_set R i (m.1, y) hi
  rw [he] at hp
  have h5 : (m :: (m.1, y) :: C.erase m).Perm ((m.1, y) :: R) := (List.Perm.swap _ _ _).trans ((List.perm_cons_erase hm).symm.cons _ |>.trans (h1.symm.cons _))
  exact List.Perm.cons_inv (hp.trans h5.symm)

theorem Left.below {ro' : Option Nat} {C' : List Ent} (h : Left fv lt B w w' hb mb ro ro' C') (h0 : Hs fv lt B w hb mb ro C) (hB : B ≤ w.heap.size) : Below B w w' := h.kept.below hB h0.base
end Go.Proofs.Ytcipilggddpnpaa.K
