/-
  ready.New; Move as one contract; the keys of two lists.
-/
import Derived.Test.YtcipilggddpnpaaQe
namespace Go.Proofs.Ytcipilggddpnpaa
open Go.RowKit Go.Sort Go.Shelf Go.Maps
set_option linter.unusedVariables false
set_option linter.unusedSimpArgs false

set_option maxHeartbeats 400000 in
theorem turnedF_any (w : World) :
    Calls Try.prog 43 #[K.upV] w fun E w' => E = .returned (K.downV w.heap.size) ∧ K.FBox w' w.heap.size ∧ Grew w w' := by
  have e1 := heap_alloc_new w (.cells #[K.upV] 85)
  go_enter Try.func43, Try.ntmps43
  go_wp2
  go_ret
  exact ⟨rfl, e1, (Grew.refl w).alloc _⟩

set_option maxHeartbeats 1000000 in
set_option maxRecDepth 20000 in
theorem qnew_any (B : Nat) (w : World) (hB : B ≤ w.heap.size) :
    Calls Try.prog 16 #[] w fun E w' => ∃ q : QB, E = .returned (.pointer (some ⟨q.qb, 0, none⟩)) ∧ Qs B w' q [] ∧ Grew w w' ∧ ∀ k, q.own k → w.heap.size ≤ k := by
  have C1 := Lib.hid (K.hs_new_up B w hB)
  have C2 : ∀ W, Hid (Calls Try.prog 43 #[K.upV] W fun E w' => E = .returned (K.downV W.heap.size) ∧ K.FBox w' W.heap.size ∧ Grew W w') := fun W => turnedF_any W
  have C3 : ∀ W fb, B ≤ W.heap.size → K.FBox W fb → Hid (Calls Try.prog 42 #[K.downV fb] W fun e w' => ∃ hb mb, e = .returned (.tuple #[.pointer (some ⟨hb, 0, none⟩), .int .i64 0]) ∧ K.Hs (K.downV fb) K.ltD B w' hb mb none [] ∧ Grew W w' ∧ W.heap.size ≤ hb ∧ W.heap.size ≤ mb) := fun W fb h1 h2 => K.hs_new_down B W h1 fb h2
  have HB := Lib.hid hB
  clear hB
  go_enter Try.func16, Try.ntmps16
  go_wp2_with fail
  refine C1.out.mono ?_
  rintro E w1 ⟨hu, mu, rfl, h1, g1, b1, b2⟩
  have H1 : Hid (K.Hs K.upV K.ltK B w1 hu mu none [] ∧ Grew w w1 ∧ w.heap.size ≤ hu ∧ w.heap.size ≤ mu) := ⟨h1, g1, b1, b2⟩
  clear h1 g1 b1 b2
  go_wp2_with fail
  refine (C2 _).out.mono ?_
  rintro E w2 ⟨rfl, h2, g2⟩
  have H2 : Hid (K.FBox w2 w1.heap.size ∧ Grew w1 w2) := ⟨h2, g2⟩
  clear h2 g2
  go_wp2_with fail
  refine (C3 w2 w1.heap.size (Nat.le_trans HB.out (Nat.le_trans H1.out.2.1.size H2.out.2.size)) H2.out.1).out.mono ?_
  rintro E w3 ⟨hd, md, rfl, h3, g3, b3, b4⟩
  have H3 : Hid (K.Hs (K.downV w1.heap.size) K.ltD B w3 hd md none [] ∧ Grew w2 w3 ∧ w2.heap.size ≤ hd ∧ w2.heap.size ≤ md) := ⟨h3, g3, b3, b4⟩
  clear h3 g3 b3 b4
  have e1 := heap_alloc_new w3 (.cells #[.pointer (some ⟨hu, 0, none⟩), .pointer (some ⟨hd, 0, none⟩)] 88)
  have E1 := Lib.hid e1
  clear e1
  go_wp2
  go_ret
  obtain ⟨h1, g1, b1, b2⟩ := H1.out
  obtain ⟨h2, g2⟩ := H2.out
  obtain ⟨h3, g3, b3, b4⟩ := H3.out
  have hB := HB.out
  have s1 := g1.size
  have s2 := g2.size
  have s3 := g3.size
  have g4 : Grew w3 (w3.alloc (.cells #[.pointer (some ⟨hu, 0, none⟩), .pointer (some ⟨hd, 0, none⟩)] 88)) := (Grew.refl w3).alloc _
  refine ⟨⟨w3.heap.size, hu, mu, none, hd, md, none, w1.heap.size⟩, rfl, ⟨E1.out, ((h1.grew g2).grew g3).grew g4, h3.grew g4, ((g3.trans g4).block h2.lt).trans h2, ?_, ?_⟩, ((g1.trans g2).trans g3).trans g4, ?_⟩
  · intro k hk hk2
    have := h1.inside k hk
    rcases hk2 with e | e | e
    · have e : k = hd := e
      omega
    · have e : k = md := e
      omega
    · cases e
  · exact ⟨by show B ≤ w3.heap.size; omega, by show B ≤ w1.heap.size; omega⟩
  · rintro k (((e | e | e) | (e | e | e)) | e | e)
    · have e : k = hu := e
      omega
    · have e : k = mu := e
      omega
    · cases e
    · have e : k = hd := e
      omega
    · have e : k = md := e
      omega
    · cases e
    · have e : k = w3.heap.size := e
      omega
    · have e : k = w1.heap.size := e
      omega

/-- What Move answers. -/
def moveR (L : List Ent) (x : Ent) : Int := if L.any (fun y => y.1 == x.1) then timeE x.2 else 14
/-- .. and leaves. -/
def moveL (L : List Ent) (x : Ent) : List Ent := if moveR L x = 0 then x :: L.filter (fun y => y.1 != x.1) else L
theorem erase_filter {L : List Ent} (hd : L.Pairwise (fun x y => x.1 ≠ y.1)) {m : Ent} (hm : m ∈ L) : (L.erase m).Perm (L.filter (fun y => y.1 != m.1)) := by
  induction L with
  | nil => cases hm
  | cons x r ih =>
    obtain ⟨h1, h2⟩ := List.pairwise_cons.1 hd
    by_cases e : x = m
    · subst e
      rw [List.erase_cons_head, List.filter_cons, if_neg (by simp), List.filter_eq_self.2 (fun y hy => by simpa using fun e => h1 y hy e.symm)]
    · have hm' : m ∈ r := by
        rcases List.mem_cons.1 hm with e' | e'
        · exact absurd e'.symm e
        · exact e'
      rw [List.erase_cons_tail (by simpa using e), List.filter_cons, if_pos (by simpa using h1 m hm')]
      exact (ih h2 hm').cons _
theorem qmove_any {B : Nat} {w : World} {q : QB} {L : List Ent} (h : Qs B w q L) (hd : L.Pairwise (fun x y => x.1 ≠ y.1)) (x : Ent) (hx : Is64 x.1 ∧ Is64 x.2) :
    Calls Try.prog 31 #[.pointer (some ⟨q.qb, 0, none⟩), .agg #[.int .i64 x.2, .int .i64 x.1]] w fun E w' => E = .returned (.int .i64 (moveR L x)) ∧ LeftQ B w w' q q (moveL L x) := by
  by_cases h1 : L.any (fun y => y.1 == x.1) = true
  · obtain ⟨m, hm, e⟩ := List.any_eq_true.1 h1
    have e : m.1 = x.1 := by simpa using e
    have hr : moveR L x = timeE x.2 := if_pos h1
    by_cases h2 : timeE x.2 = 0
    · unfold moveL
      rw [hr, h2, if_pos rfl, ← e]
      refine (move_ok h x.2 m hm (by rw [e]; exact hx.1) hx.2 h2).mono ?_
      rintro E w' ⟨rfl, l⟩
      refine ⟨rfl, l.perm ?_⟩
      have : ((m.1, x.2) : Ent) = x := by rw [e]
      rw [this]
      exact (erase_filter hd hm).cons _
    · unfold moveL
      rw [hr, if_neg h2, ← e]
      refine (move_time h x.2 m hm _ rfl h2).mono ?_
      rintro E w' ⟨rfl, g⟩
      exact ⟨rfl, LeftQ.grew h g⟩
  · have hr : moveR L x = 14 := if_neg h1
    unfold moveL
    rw [hr, if_neg (by decide)]
    refine (move_none h x.2 x.1 hx.1 (fun y hy e => h1 (List.any_eq_true.2 ⟨y, hy, by simpa using e⟩))).mono ?_
    rintro E w' ⟨rfl, g⟩
    exact ⟨rfl, LeftQ.grew h g⟩
end Go.Proofs.Ytcipilggddpnpaa
