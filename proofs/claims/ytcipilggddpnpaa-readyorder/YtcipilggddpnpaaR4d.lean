/-
  The law's does, of queues: both stay the same, whatever is called.
-/
import Derived.Test.YtcipilggddpnpaaR4c
import Derived.Test.YtcipilggddpnpaaQm
import Derived.Test.YtcipilggddpnpaaTb
import Derived.Test.YtcipilggddpnpaaLy
import Derived.Deep.RegionHeld3
namespace Go.Proofs.Ytcipilggddpnpaa
open Go.RowKit Go.Shelf Go.Maps
set_option linter.unusedVariables false
set_option linter.unusedSimpArgs false

/-- Keys in a slice that lies in what was there ahead of X. -/
def KeysIn (X : Nat) (W : World) (a : Option Addr) (l : List Ent) : Prop := KeysAt W a l ∧ (l.length ≠ 0 → ∀ y, a = some y → y.block < X)
theorem KeysIn.below {X : Nat} {W W' : World} {a : Option Addr} {l : List Ent} (h : KeysIn X W a l) (b : Below X W W') : KeysIn X W' a l := by
  refine ⟨?_, h.2⟩
  rcases h.1 with e | ⟨g, o, rfl, hg, hc⟩
  · exact .inl e
  · by_cases h0 : l.length = 0
    · exact .inl h0
    have hx := h.2 h0 _ rfl
    refine .inr ⟨g, o, rfl, Nat.lt_of_lt_of_le hg b.size, fun i hi => ?_⟩
    obtain ⟨⟨k1, k2⟩, k3⟩ := hc i hi
    exact ⟨⟨(b.cell (p := ⟨g, o + i * 2, none⟩) hx).trans k1, (b.cell (p := ⟨g, o + i * 2 + 1, none⟩) hx).trans k2⟩, k3⟩

/-- The law's call, boxed. -/
def Op4 (W : World) (b : Nat) (k t id : Int) (a : Option Addr) (n cap : Nat) : Prop := W.heap[b]? = some (.cells #[.int .i64 k, .int .i64 t, .int .i64 id, .slice a n cap] 51 (0, 0))
theorem Op4.lt {W : World} {b : Nat} {k t id : Int} {a : Option Addr} {n cap : Nat} (h : Op4 W b k t id a n cap) : b < W.heap.size := (Array.getElem?_eq_some_iff.1 h).1
theorem Op4.cells {W : World} {b : Nat} {k t id : Int} {a : Option Addr} {n cap : Nat} (h : Op4 W b k t id a n cap) : (W.cell? ⟨b, 0, none⟩ = some (.int .i64 k) ∧ W.cell? ⟨b, 1, none⟩ = some (.int .i64 t)) ∧ W.cell? ⟨b, 2, none⟩ = some (.int .i64 id) ∧ W.cell? ⟨b, 3, none⟩ = some (.slice a n cap) := by
  unfold Op4 at h
  refine ⟨⟨?_, ?_⟩, ?_, ?_⟩ <;> simp [World.cell?, h]
theorem Op4.lies {W W' : World} {b : Nat} {k t id : Int} {a : Option Addr} {n cap : Nat} (h : Op4 W b k t id a n cap) (hb : Below W.heap.size W W') : Op4 W' b k t id a n cap := (hb.block b h.lt).trans h
theorem Op4.kept {W W' : World} {b : Nat} {k t id : Int} {a : Option Addr} {n cap : Nat} {S : Nat → Prop} (h : Op4 W b k t id a n cap) (kk : Kept S W W') (hs : ¬ S b) : Op4 W' b k t id a n cap := (kk.block b h.lt hs).trans h

/-- What a call leaves of both. -/
def Did4 (X : Nat) (W W' : World) (q : QB) (rf : Nat) (len : Nat) : Prop := ∃ q' S, Pq X W' q' rf S ∧ q'.qb = q.qb ∧ S.length ≤ len + 20 ∧ Below X W W'

/-- What a queue holds behind a Put. -/
theorem putsL_facts {S l : List Ent} (hd : Diff S) (hg : ∀ x ∈ S, (¬ x.1 < 0 ∧ timeE x.2 = 0) ∧ Is64 x.1 ∧ Is64 x.2) (h64 : ∀ x ∈ l, Is64 x.1 ∧ Is64 x.2) : Diff (putsL S l) ∧ (∀ x ∈ putsL S l, (¬ x.1 < 0 ∧ timeE x.2 = 0) ∧ Is64 x.1 ∧ Is64 x.2) ∧ (putsL S l).length ≤ S.length + l.length := by
  unfold putsL
  by_cases h : putsR S l = 0
  · rw [if_pos h]
    obtain ⟨⟨g1, g2⟩, g3⟩ := (putsR_zero l S).1 h
    refine ⟨?_, ?_, by rw [List.length_append, List.length_reverse]; omega⟩
    · refine List.pairwise_append.2 ⟨?_, hd, fun x hx y hy => ?_⟩
      · exact (List.Perm.pairwise_iff (R := fun x y : Ent => x.1 ≠ y.1) (fun h => h.symm) (List.reverse_perm l)).2 g2
      · exact (g3 x (List.mem_reverse.1 hx) y hy).symm
    · intro x hx
      rcases List.mem_append.1 hx with e | e
      · exact ⟨g1 x (List.mem_reverse.1 e), h64 x (List.mem_reverse.1 e)⟩
      · exact hg x e
  · rw [if_neg h]
    exact ⟨hd, hg, by omega⟩
theorem moveL_facts {S : List Ent} {x : Ent} (hd : Diff S) (hg : ∀ x ∈ S, (¬ x.1 < 0 ∧ timeE x.2 = 0) ∧ Is64 x.1 ∧ Is64 x.2) (h64 : Is64 x.1 ∧ Is64 x.2) : ∀ y ∈ moveL S x, (¬ y.1 < 0 ∧ timeE y.2 = 0) ∧ Is64 y.1 ∧ Is64 y.2 := by
  unfold moveL
  by_cases h : moveR S x = 0
  · rw [if_pos h]
    intro y hy
    rcases List.mem_cons.1 hy with e | e
    · subst e
      unfold moveR at h
      split at h
      · rename_i h1
        obtain ⟨m, hm, e⟩ := List.any_eq_true.1 h1
        have e' : m.1 = y.1 := by simpa using e
        exact ⟨⟨by rw [← e']; exact (hg m hm).1.1, h⟩, h64⟩
      · cases h
    · exact hg y (List.mem_filter.1 e).1
  · rw [if_neg h]
    exact hg
theorem keys_64 {W : World} {a : Option Addr} {l : List Ent} (h : KeysAt W a l) : ∀ x ∈ l, Is64 x.1 ∧ Is64 x.2 := by
  intro x hx
  obtain ⟨i, hi, rfl⟩ := List.getElem_of_mem hx
  rcases h with e | ⟨g, o, _, _, hc⟩
  · omega
  · have := (hc i hi).2
    rw [List.getD_eq_getElem?_getD, List.getElem?_eq_getElem hi] at this
    exact this
theorem perm_diff {L M : List Ent} (hp : L.Perm M) (h : Diff L) : Diff M := (List.Perm.pairwise_iff (R := fun x y : Ent => x.1 ≠ y.1) (fun h => h.symm) hp).1 h

set_option maxHeartbeats 4000000 in
set_option maxRecDepth 20000 in
theorem does4_put {X : Nat} {W : World} {q : QB} {rf : Nat} {S l : List Ent} (h : Pq X W q rf S) (hl : S.length + 20 < 1099511627776) (t id : Int) (a : Option Addr) (cap : Nat) (hk : KeysIn X W a l) (h20 : l.length ≤ 20) (hcap : l.length ≤ cap) :
    Calls Try.prog 19 #[.pointer (some ⟨q.qb, 0, none⟩), .pointer (some ⟨rf, 0, none⟩), .agg #[.int .i64 0, .int .i64 t, .int .i64 id, .slice a l.length cap]] W fun E w' => E = .returned (.bool true) ∧ Did4 X W w' q rf S.length := by
  obtain ⟨W0, hW0⟩ : ∃ W0, W.alloc (.cells #[.int .i64 0, .int .i64 t, .int .i64 id, .slice a l.length cap] 51) = W0 := ⟨_, rfl⟩
  have b0 : Below W.heap.size W W0 := by rw [← hW0]; exact (Below.refl _ _).alloc (Nat.le_refl _) _
  have o0 : Op4 W0 W.heap.size 0 t id a l.length cap := by rw [← hW0]; exact heap_alloc_new _ _
  have P0 := Lib.hid (h.lies b0)
  have HB : Hid (Below W.heap.size W W0 ∧ X ≤ W.heap.size ∧ KeysIn X W a l ∧ l.length ≤ 20 ∧ l.length ≤ cap ∧ S.length + 20 < 1099511627776) := ⟨b0, h.base, hk, h20, hcap, hl⟩
  have OFF : Hid ((∀ k, q.own k → k < W.heap.size) ∧ rf < W.heap.size) := ⟨fun k hk => h.queue.lt k hk, h.ref.lt⟩
  have HO := Lib.hid o0
  have HW := Lib.hid hW0
  obtain ⟨ob, hob⟩ : ∃ ob, W.heap.size = ob := ⟨_, rfl⟩
  have CA : Hid (∀ W', Below W0.heap.size W0 W' → Calls Try.prog 44 #[.pointer (some ⟨q.qb, 0, none⟩), .slice a l.length cap] W' fun E w' => E = .returned (.int .i64 (putsR S l)) ∧ Hid ((∃ q', Qs X w' q' (putsL S l) ∧ q'.qb = q.qb) ∧ RefIs X w' rf S ∧ Below X W w' ∧ Op4 w' ob 0 t id a l.length cap) ∧ w'.cell? ⟨ob, 3, none⟩ = some (.slice a l.length cap)) := fun W' b => by
    have p := P0.out.lies b
    have bX : Below X W W' := (HB.out.1.mono HB.out.2.1).trans (b.mono (Nat.le_trans HB.out.2.1 HB.out.1.size))
    have kk := HB.out.2.2.1.below bX
    refine (qput_gen p.queue p.base a cap kk.1 (fun hne x e hx => by have := kk.2 hne x e; have := p.queue.from _ (.inl hx); omega) HB.out.2.2.2.2.1 (by have := HB.out.2.2.2.1; have := HB.out.2.2.2.2.2; omega)).mono ?_
    rintro E w' ⟨rfl, q', lq⟩
    have oo : Op4 w' ob 0 t id a l.length cap := by
      rw [← hob]
      exact (HO.out.lies b).kept lq.kept (fun hs => by have := OFF.out.1 _ (.inl hs); omega)
    exact ⟨rfl, ⟨⟨q', lq.queue, lq.here.1⟩, p.ref.besideQ p.queue lq.kept, bX.trans (lq.below p.queue p.base), oo⟩, oo.cells.2.2⟩
  have CB : Hid (∀ W', Hid ((∃ q', Qs X W' q' (putsL S l) ∧ q'.qb = q.qb) ∧ RefIs X W' rf S ∧ Below X W W' ∧ Op4 W' ob 0 t id a l.length cap) → Calls Try.prog 45 #[.pointer (some ⟨rf, 0, none⟩), .slice a l.length cap] W' fun E w' => E = .returned (.int .i64 (putsR S l)) ∧ Hid (Did4 X W w' q rf S.length) ∧ w'.cell? ⟨ob, 3, none⟩ = some (.slice a l.length cap)) := fun W' hh => by
    obtain ⟨⟨q', ts, hq⟩, rr, bl, oo⟩ := hh.out
    have hB : X ≤ W'.heap.size := Nat.le_trans HB.out.2.1 bl.size
    have kk := HB.out.2.2.1.below bl
    refine (rput4_any rr P0.out.diff P0.out.sorted hB a cap kk.1 (by have := HB.out.2.2.2.1; have := HB.out.2.2.2.2.2; omega)).mono ?_
    rintro E w' ⟨rfl, ⟨N, rn, sn, pn⟩, k⟩
    have oo' : Op4 w' ob 0 t id a l.length cap := oo.kept k (fun hs => by have := OFF.out.2; omega)
    obtain ⟨f1, f2, f3⟩ := putsL_facts P0.out.diff P0.out.good (keys_64 kk.1)
    refine ⟨rfl, ⟨q', N, ⟨(ts.besideR rr k).perm pn.symm, rn, sn, perm_diff pn.symm f1, fun x hx => f2 x (pn.mem_iff.1 hx), Nat.le_trans hB k.size, P0.out.rb⟩, hq, ?_, bl.trans (k.below hB (fun j e => by rw [e]; exact P0.out.rb))⟩, oo'.cells.2.2⟩
    have := pn.length_eq
    have := HB.out.2.2.2.1
    omega
  obtain ⟨⟨k0, _⟩, _, k3⟩ := o0.cells
  clear h b0 o0 hW0 hl hk h20 hcap
  rw [hob] at k0 k3
  generalize putsR S l = r at *
  have rr : (r == r) = true := by simp
  generalize l.length = n at *
  go_enter Try.func19, Try.ntmps19
  go_wp2_with fail
  rw [HW.out]
  try rw [hob]
  go_region_held3 (fun w' => w'.cell? ⟨ob, 3, none⟩ = some (.slice a n cap))
    (first | exact k3 | exact s0 | exact u0)
    (first
      | (go_at_call 45; (with_reducible refine (CB.out _ hq9).mono ?_); rintro E w8 ⟨rfl, hq8, u0⟩)
      | (go_at_call 44; (refine (CA.out _ (grewN W0 1).below).mono ?_); rintro E w9 ⟨rfl, hq9, s0⟩))
  have R8 := hq8
  clear CA CB k0 k3 u0 hq8
  go_wp2
  go_ret
  exact ⟨rfl, R8.out⟩
end Go.Proofs.Ytcipilggddpnpaa
