/-
  Several texts as one.
-/
import Derived.Test.YtcipilggddpnpaaQx1
import Derived.Test.YtcipilggddpnpaaRx1
import Derived.Test.YtcipilggddpnpaaTx1
import Derived.Deep.RegionHeld3
import Derived.Deep.Cut
import Derived.Deep.LoopGhost
/-
  Layer 4's calls, as they come in; few.
-/
namespace Go.Proofs.Ytcipilggddpnpaa
open Go.RowKit Go.Sort Go.Shelf Go.Maps
set_option linter.unusedVariables false
set_option linter.unusedSimpArgs false

/-- n calls lie at a: what is asked, the key, the keys that are put, and where these lie. -/
def OpsAt4 (w : World) (a : Option Addr) (n : Nat) (V : Nat → Int × Ent × List Ent) (A : Nat → Option Addr × Nat) : Prop :=
  n = 0 ∨ ∃ g o, a = some ⟨g, o, none⟩ ∧ g < w.heap.size ∧ ∀ i, i < n → (w.cell? ⟨g, o + i * 4, none⟩ = some (.int .i64 (V i).1) ∧ w.cell? ⟨g, o + i * 4 + 1, none⟩ = some (.int .i64 (V i).2.1.2) ∧ w.cell? ⟨g, o + i * 4 + 2, none⟩ = some (.int .i64 (V i).2.1.1) ∧ w.cell? ⟨g, o + i * 4 + 3, none⟩ = some (.slice (A i).1 (V i).2.2.length (A i).2)) ∧
    (Is64 (V i).2.1.1 ∧ Is64 (V i).2.1.2) ∧ KeysAt w (A i).1 (V i).2.2 ∧ (V i).2.2.length ≤ (A i).2

theorem OpsAt4.below {w w' : World} {a : Option Addr} {n : Nat} {V : Nat → Int × Ent × List Ent} {A : Nat → Option Addr × Nat} (h : OpsAt4 w a n V A) (b : Below w.heap.size w w') : OpsAt4 w' a n V A := by
  rcases h with h | ⟨g, o, rfl, hg, hc⟩
  · exact .inl h
  · refine .inr ⟨g, o, rfl, Nat.lt_of_lt_of_le hg b.size, fun i hi => ?_⟩
    obtain ⟨⟨h1, h2, h3, h4⟩, h5, h6, h7⟩ := hc i hi
    refine ⟨⟨(b.cell (p := ⟨g, o + i * 4, none⟩) hg).trans h1, (b.cell (p := ⟨g, o + i * 4 + 1, none⟩) hg).trans h2, (b.cell (p := ⟨g, o + i * 4 + 2, none⟩) hg).trans h3, (b.cell (p := ⟨g, o + i * 4 + 3, none⟩) hg).trans h4⟩, h5, ?_, h7⟩
    rcases h6 with h6 | ⟨g', o', e, hg', hc'⟩
    · exact .inl h6
    · refine .inr ⟨g', o', e, Nat.lt_of_lt_of_le hg' b.size, fun k hk => ?_⟩
      obtain ⟨⟨k1, k2⟩, k3⟩ := hc' k hk
      exact ⟨⟨(b.cell (p := ⟨g', o' + k * 2, none⟩) hg').trans k1, (b.cell (p := ⟨g', o' + k * 2 + 1, none⟩) hg').trans k2⟩, k3⟩

/-- Not too many calls, of not too many keys. -/
def Few4 (n : Nat) (V : Nat → Int × Ent × List Ent) : Prop := n ≤ 40 ∧ ∀ i, i < n → (V i).2.2.length ≤ 20

set_option maxHeartbeats 1000000 in
set_option maxRecDepth 20000 in
theorem few4_any (w : World) (a : Option Addr) (n cap : Nat) (V : Nat → Int × Ent × List Ent) (A : Nat → Option Addr × Nat) (h : OpsAt4 w a n V A) (hn : n ≤ 9223372036854775807) (r : Bool) (hr : r = true ↔ Few4 n V) :
    Calls Try.prog 17 #[.slice a n cap] w fun e w' => e = .returned (.bool r) ∧ Grew w w' := by
  have HO : Hid (OpsAt4 w a n V A ∧ (r = true ↔ Few4 n V)) := ⟨h, hr⟩
  clear h hr
  go_enter Try.func17, Try.ntmps17
  go_wp2
  go_loopg [3] n (fun gk s wr => ∃ i : Nat, s = .int .i64 i ∧ i ≤ n ∧ n - i ≤ gk ∧ Hid (Grew w wr ∧ ∀ j, j < i → (V j).2.2.length ≤ 20))
  case atStart => exact ⟨0, rfl, Nat.zero_le _, Nat.le_refl _, Grew.refl w, fun j hj => absurd hj (Nat.not_lt_zero _)⟩
  case round =>
    rename World => W2
    obtain ⟨i, rfl, hin, hgk, HR⟩ := hrel
    by_cases hi : i < n
    · have hi' : decide ((i : Int) < (n : Int)) = true := decide_eq_true (by omega)
      have hiz : (i : Int) < (n : Int) := by omega
      have q4 : IntKind.i64.wrap ((i : Int) + 1) = (i : Int) + 1 := by rw [IntKind.wrap_i64]; omega
      rcases HO.out.1.below HR.out.1.below with h | ⟨g, o, rfl, hg, hc⟩
      · omega
      obtain ⟨⟨_, _, _, c4⟩, _⟩ := hc i hi
      by_cases hx : (V i).2.2.length ≤ 20
      · have H4 : Hid (Grew w W2 ∧ ∀ j, j < i + 1 → (V j).2.2.length ≤ 20) := ⟨HR.out.1, fun j hj => by
          by_cases e : j = i
          · subst e; exact hx
          · exact HR.out.2 j (by omega)⟩
        have t1 : decide (((V i).2.2.length : Int) > 20) = false := decide_eq_false (by omega)
        clear hc hx HR
        generalize (V i).2.2.length = m at *
        generalize (A i).1 = a1 at *
        generalize (A i).2 = a2 at *
        go_wp2
        go_roundg (n - (i + 1))
        case measure => omega
        case rel => exact ⟨i + 1, by go_num, by omega, Nat.le_refl _, (show Hid _ from H4.out)⟩
      · have e0 : Hid (r = false) := by
          have h2 := HO.out.2
          cases hr : r with
          | false => rfl
          | true => exact absurd ((h2.1 hr).2 i hi) hx
        have H4 := Lib.hid HR.out.1
        have t1 : decide (((V i).2.2.length : Int) > 20) = true := decide_eq_true (by omega)
        clear hc hx HR
        generalize (V i).2.2.length = m at *
        generalize (A i).1 = a1 at *
        generalize (A i).2 = a2 at *
        go_wp2
        go_ret
        exact ⟨by rw [e0.out]; rfl, H4.out⟩
    · obtain rfl : i = n := by omega
      have hi' : decide ((i : Int) < (i : Int)) = false := decide_eq_false (by omega)
      have e0 : Hid (r = decide ((i : Int) ≤ 40)) := by
        have h2 := HO.out.2
        by_cases h : i ≤ 40
        · rw [decide_eq_true (by omega)]
          exact h2.2 ⟨h, HR.out.2⟩
        · rw [decide_eq_false (by omega)]
          cases hr : r with
          | false => rfl
          | true => exact absurd (h2.1 hr).1 h
      go_wp2
      go_ret
      exact ⟨by rw [e0.out]; rfl, HR.out.1⟩
end Go.Proofs.Ytcipilggddpnpaa

/-
  The law's does, of queues: both stay the same, whatever is called.
-/
namespace Go.Proofs.Ytcipilggddpnpaa
open Go.RowKit Go.Shelf Go.Maps
set_option linter.unusedVariables false
set_option linter.unusedSimpArgs false

/-- Keys in a slice that lies in what was there ahead of X. -/
def KeysIn (X : Nat) (W : World) (a : Option Addr) (l : List Ent) : Prop := KeysAt W a l ∧ (l.length ≠ 0 → ∀ y, a = some y → y.block < X)
theorem KeysIn.below {X : Nat} {W W' : World} {a : Option Addr} {l : List Ent} (h : KeysIn X W a l) (b : Below X W W') : KeysIn X W' a l := by
  refine ⟨?_, h.2⟩
  rcases h.1 with e | ⟨g, o, rfl, hg, hc⟩
  · exact .inl e
  · by_cases h0 : l.length = 0
    · exact .inl h0
    have hx := h.2 h0 _ rfl
    refine .inr ⟨g, o, rfl, Nat.lt_of_lt_of_le hg b.size, fun i hi => ?_⟩
    obtain ⟨⟨k1, k2⟩, k3⟩ := hc i hi
    exact ⟨⟨(b.cell (p := ⟨g, o + i * 2, none⟩) hx).trans k1, (b.cell (p := ⟨g, o + i * 2 + 1, none⟩) hx).trans k2⟩, k3⟩

/-- The law's call, boxed. -/
def Op4 (W : World) (b : Nat) (k t id : Int) (a : Option Addr) (n cap : Nat) : Prop := W.heap[b]? = some (.cells #[.int .i64 k, .int .i64 t, .int .i64 id, .slice a n cap] 51 (0, 0))
theorem Op4.lt {W : World} {b : Nat} {k t id : Int} {a : Option Addr} {n cap : Nat} (h : Op4 W b k t id a n cap) : b < W.heap.size := (Array.getElem?_eq_some_iff.1 h).1
theorem Op4.cells {W : World} {b : Nat} {k t id : Int} {a : Option Addr} {n cap : Nat} (h : Op4 W b k t id a n cap) : (W.cell? ⟨b, 0, none⟩ = some (.int .i64 k) ∧ W.cell? ⟨b, 1, none⟩ = some (.int .i64 t)) ∧ W.cell? ⟨b, 2, none⟩ = some (.int .i64 id) ∧ W.cell? ⟨b, 3, none⟩ = some (.slice a n cap) := by
  unfold Op4 at h
  refine ⟨⟨?_, ?_⟩, ?_, ?_⟩ <;> simp [World.cell?, h]
theorem Op4.lies {W W' : World} {b : Nat} {k t id : Int} {a : Option Addr} {n cap : Nat} (h : Op4 W b k t id a n cap) (hb : Below W.heap.size W W') : Op4 W' b k t id a n cap := (hb.block b h.lt).trans h
theorem Op4.kept {W W' : World} {b : Nat} {k t id : Int} {a : Option Addr} {n cap : Nat} {S : Nat → Prop} (h : Op4 W b k t id a n cap) (kk : Kept S W W') (hs : ¬ S b) : Op4 W' b k t id a n cap := (kk.block b h.lt hs).trans h

/-- What stays: all ahead of X, and all but what turns. -/
def Bel4 (X : Nat) (q : QB) (rf : Nat) (W W' : World) : Prop := Below X W W' ∧ Kept (fun k => q.turns k ∨ k = rf) W W'
/-- What a call leaves of both. -/
def Did4 (X : Nat) (W W' : World) (q : QB) (rf : Nat) (len : Nat) : Prop := ∃ q' S, Pq X W' q' rf S ∧ q'.qb = q.qb ∧ S.length ≤ len + 20 ∧ Bel4 X q rf W W' ∧ ∀ k, q'.turns k → q.turns k ∨ W.heap.size ≤ k

/-- What a queue holds behind a Put. -/
theorem putsL_facts {S l : List Ent} (hd : Diff S) (hg : ∀ x ∈ S, (¬ x.1 < 0 ∧ timeE x.2 = 0) ∧ Is64 x.1 ∧ Is64 x.2) (h64 : ∀ x ∈ l, Is64 x.1 ∧ Is64 x.2) : Diff (putsL S l) ∧ (∀ x ∈ putsL S l, (¬ x.1 < 0 ∧ timeE x.2 = 0) ∧ Is64 x.1 ∧ Is64 x.2) ∧ (putsL S l).length ≤ S.length + l.length := by
  unfold putsL
  by_cases h : putsR S l = 0
  · rw [if_pos h]
    obtain ⟨⟨g1, g2⟩, g3⟩ := (putsR_zero l S).1 h
    refine ⟨?_, ?_, by rw [List.length_append, List.length_reverse]; omega⟩
    · refine List.pairwise_append.2 ⟨?_, hd, fun x hx y hy => ?_⟩
      · exact (List.Perm.pairwise_iff (R := fun x y : Ent => x.1 ≠ y.1) (fun h => h.symm) (List.reverse_perm l)).2 g2
      · exact (g3 x (List.mem_reverse.1 hx) y hy).symm
    · intro x hx
      rcases List.mem_append.1 hx with e | e
      · exact ⟨g1 x (List.mem_reverse.1 e), h64 x (List.mem_reverse.1 e)⟩
      · exact hg x e
  · rw [if_neg h]
    exact ⟨hd, hg, by omega⟩
theorem moveL_facts {S : List Ent} {x : Ent} (hd : Diff S) (hg : ∀ x ∈ S, (¬ x.1 < 0 ∧ timeE x.2 = 0) ∧ Is64 x.1 ∧ Is64 x.2) (h64 : Is64 x.1 ∧ Is64 x.2) : ∀ y ∈ moveL S x, (¬ y.1 < 0 ∧ timeE y.2 = 0) ∧ Is64 y.1 ∧ Is64 y.2 := by
  unfold moveL
  by_cases h : moveR S x = 0
  · rw [if_pos h]
    intro y hy
    rcases List.mem_cons.1 hy with e | e
    · subst e
      unfold moveR at h
      split at h
      · rename_i h1
        obtain ⟨m, hm, e⟩ := List.any_eq_true.1 h1
        have e' : m.1 = y.1 := by simpa using e
        exact ⟨⟨by rw [← e']; exact (hg m hm).1.1, h⟩, h64⟩
      · cases h
    · exact hg y (List.mem_filter.1 e).1
  · rw [if_neg h]
    exact hg
theorem keys_64 {W : World} {a : Option Addr} {l : List Ent} (h : KeysAt W a l) : ∀ x ∈ l, Is64 x.1 ∧ Is64 x.2 := by
  intro x hx
  obtain ⟨i, hi, rfl⟩ := List.getElem_of_mem hx
  rcases h with e | ⟨g, o, _, _, hc⟩
  · omega
  · have := (hc i hi).2
    rw [List.getD_eq_getElem?_getD, List.getElem?_eq_getElem hi] at this
    exact this
theorem perm_diff {L M : List Ent} (hp : L.Perm M) (h : Diff L) : Diff M := (List.Perm.pairwise_iff (R := fun x y : Ent => x.1 ≠ y.1) (fun h => h.symm) hp).1 h

set_option maxHeartbeats 4000000 in
set_option maxRecDepth 20000 in
theorem does4_put {X : Nat} {W : World} {q : QB} {rf : Nat} {S l : List Ent} (h : Pq X W q rf S) (hl : S.length + 20 < 1099511627776) (t id : Int) (a : Option Addr) (cap : Nat) (hk : KeysIn X W a l) (h20 : l.length ≤ 20) (hcap : l.length ≤ cap) :
    Calls Try.prog 19 #[.pointer (some ⟨q.qb, 0, none⟩), .pointer (some ⟨rf, 0, none⟩), .agg #[.int .i64 0, .int .i64 t, .int .i64 id, .slice a l.length cap]] W fun E w' => E = .returned (.bool true) ∧ Did4 X W w' q rf S.length := by
  obtain ⟨W0, hW0⟩ : ∃ W0, W.alloc (.cells #[.int .i64 0, .int .i64 t, .int .i64 id, .slice a l.length cap] 51) = W0 := ⟨_, rfl⟩
  have b0 : Below W.heap.size W W0 := by rw [← hW0]; exact (Below.refl _ _).alloc (Nat.le_refl _) _
  have o0 : Op4 W0 W.heap.size 0 t id a l.length cap := by rw [← hW0]; exact heap_alloc_new _ _
  have P0 := Lib.hid (h.lies b0)
  have HB : Hid (Below W.heap.size W W0 ∧ X ≤ W.heap.size ∧ KeysIn X W a l ∧ l.length ≤ 20 ∧ l.length ≤ cap ∧ S.length + 20 < 1099511627776) := ⟨b0, h.base, hk, h20, hcap, hl⟩
  have OFF : Hid ((∀ k, q.own k → k < W.heap.size) ∧ rf < W.heap.size) := ⟨fun k hk => h.queue.lt k hk, h.ref.lt⟩
  have HO := Lib.hid o0
  have HW := Lib.hid hW0
  obtain ⟨ob, hob⟩ : ∃ ob, W.heap.size = ob := ⟨_, rfl⟩
  have CA : Hid (∀ W', Below W0.heap.size W0 W' → Calls Try.prog 44 #[.pointer (some ⟨q.qb, 0, none⟩), .slice a l.length cap] W' fun E w' => E = .returned (.int .i64 (putsR S l)) ∧ Hid ((∃ q', Qs X w' q' (putsL S l) ∧ q'.qb = q.qb ∧ ∀ k, q'.turns k → q.turns k ∨ W.heap.size ≤ k) ∧ RefIs X w' rf S ∧ Bel4 X q rf W w' ∧ Op4 w' ob 0 t id a l.length cap) ∧ w'.cell? ⟨ob, 3, none⟩ = some (.slice a l.length cap)) := fun W' b => by
    have p := P0.out.lies b
    have bX : Below X W W' := (HB.out.1.mono HB.out.2.1).trans (b.mono (Nat.le_trans HB.out.2.1 HB.out.1.size))
    have kk := HB.out.2.2.1.below bX
    refine (qput_gen p.queue p.base a cap kk.1 (fun hne x e hx => by have := kk.2 hne x e; have := p.queue.from _ (.inl hx); omega) HB.out.2.2.2.2.1 (by have := HB.out.2.2.2.1; have := HB.out.2.2.2.2.2; omega)).mono ?_
    rintro E w' ⟨rfl, q', lq⟩
    have oo : Op4 w' ob 0 t id a l.length cap := by
      rw [← hob]
      exact (HO.out.lies b).kept lq.kept (fun hs => by have := OFF.out.1 _ (.inl hs); omega)
    have bW : Below W.heap.size W W' := HB.out.1.trans (b.mono HB.out.1.size)
    exact ⟨rfl, ⟨⟨q', lq.queue, lq.here.1, fun k hk => (lq.moved k hk).imp (fun x => x) (fun x => Nat.le_trans bW.size x)⟩, p.ref.besideQ p.queue lq.kept, ⟨bX.trans (lq.below p.queue p.base), (kept_lies bW).trans (lq.kept.mono (fun _ _ h => .inl h))⟩, oo⟩, oo.cells.2.2⟩
  have CB : Hid (∀ W', Hid ((∃ q', Qs X W' q' (putsL S l) ∧ q'.qb = q.qb ∧ ∀ k, q'.turns k → q.turns k ∨ W.heap.size ≤ k) ∧ RefIs X W' rf S ∧ Bel4 X q rf W W' ∧ Op4 W' ob 0 t id a l.length cap) → Calls Try.prog 45 #[.pointer (some ⟨rf, 0, none⟩), .slice a l.length cap] W' fun E w' => E = .returned (.int .i64 (putsR S l)) ∧ Hid (Did4 X W w' q rf S.length) ∧ w'.cell? ⟨ob, 3, none⟩ = some (.slice a l.length cap)) := fun W' hh => by
    obtain ⟨⟨q', ts, hq, hown⟩, rr, ⟨bl, bk⟩, oo⟩ := hh.out
    have hB : X ≤ W'.heap.size := Nat.le_trans HB.out.2.1 bl.size
    have kk := HB.out.2.2.1.below bl
    refine (rput4_any rr P0.out.diff P0.out.sorted hB a cap kk.1 (by have := HB.out.2.2.2.1; have := HB.out.2.2.2.2.2; omega)).mono ?_
    rintro E w' ⟨rfl, ⟨N, rn, sn, pn⟩, k⟩
    have oo' : Op4 w' ob 0 t id a l.length cap := oo.kept k (fun hs => by have := OFF.out.2; omega)
    obtain ⟨f1, f2, f3⟩ := putsL_facts P0.out.diff P0.out.good (keys_64 kk.1)
    refine ⟨rfl, ⟨q', N, ⟨(ts.besideR rr k).perm pn.symm, rn, sn, perm_diff pn.symm f1, fun x hx => f2 x (pn.mem_iff.1 hx), Nat.le_trans hB k.size, P0.out.rb⟩, hq, ?_, ⟨bl.trans (k.below hB (fun j e => by rw [e]; exact P0.out.rb)), bk.trans (k.mono (fun _ _ e => .inr e))⟩, hown⟩, oo'.cells.2.2⟩
    have := pn.length_eq
    have := HB.out.2.2.2.1
    omega
  obtain ⟨⟨k0, _⟩, _, k3⟩ := o0.cells
  clear h b0 o0 hW0 hl hk h20 hcap
  rw [hob] at k0 k3
  generalize putsR S l = r at *
  have rr : (r == r) = true := by simp
  generalize l.length = n at *
  go_enter Try.func19, Try.ntmps19
  go_wp2_with fail
  rw [HW.out]
  try rw [hob]
  go_region_held3 (fun w' => w'.cell? ⟨ob, 3, none⟩ = some (.slice a n cap))
    (first | exact k3 | exact s0 | exact u0)
    (first
      | (go_at_call 45; (with_reducible refine (CB.out _ hq9).mono ?_); rintro E w8 ⟨rfl, hq8, u0⟩)
      | (go_at_call 44; (refine (CA.out _ (grewN W0 1).below).mono ?_); rintro E w9 ⟨rfl, hq9, s0⟩))
  have R8 := hq8
  clear CA CB k0 k3 u0 hq8
  go_wp2
  go_ret
  exact ⟨rfl, R8.out⟩
end Go.Proofs.Ytcipilggddpnpaa

/-
  ready.Queue and timers.Queue: Copy.
-/
namespace Go.Proofs.Ytcipilggddpnpaa
open Go.RowKit Go.Shelf Go.Maps
set_option linter.unusedVariables false
set_option linter.unusedSimpArgs false

theorem below_al (V : World) (o : Obj) : Below V.heap.size V (V.alloc o) := (Below.refl _ V).alloc (Nat.le_refl _) o
theorem keepc {W W' : World} {p : Addr} {v : Value} (h : W.cell? p = some v) (hb : Below W.heap.size W W') : W'.cell? p = some v := by
  rcases Nat.lt_or_ge p.block W.heap.size with hlt | hge
  · rw [hb.cell hlt]; exact h
  · simp [World.cell?, Array.getElem?_eq_none hge] at h
theorem keep2 {W W' : World} {p1 p2 : Addr} {v1 v2 : Value} (h : W.cell? p1 = some v1 ∧ W.cell? p2 = some v2) (hb : Below W.heap.size W W') : W'.cell? p1 = some v1 ∧ W'.cell? p2 = some v2 := ⟨keepc h.1 hb, keepc h.2 hb⟩
theorem keep4 {W W' : World} {p1 p2 p3 p4 : Addr} {v1 v2 v3 v4 : Value} (h : W.cell? p1 = some v1 ∧ W.cell? p2 = some v2 ∧ W.cell? p3 = some v3 ∧ W.cell? p4 = some v4) (hb : Below W.heap.size W W') : W'.cell? p1 = some v1 ∧ W'.cell? p2 = some v2 ∧ W'.cell? p3 = some v3 ∧ W'.cell? p4 = some v4 := ⟨keepc h.1 hb, keepc h.2.1 hb, keepc h.2.2.1 hb, keepc h.2.2.2 hb⟩
theorem mine_ge {B : Nat} {w : World} {fv : Value} {lt : K.Ky → K.Ky → Bool} {hb mb : Nat} {ro : Option Nat} {C : List K.Ent} (h : K.Hs fv lt B w hb mb ro C) : ∀ k, Mine hb mb ro k → B ≤ k := h.base

set_option maxHeartbeats 2000000 in
set_option maxRecDepth 20000 in
/-- A queue of its own that holds the same: new blocks, but for the order's. -/
theorem qcopy_any {B : Nat} {w : World} {q : QB} {L : List Ent} (h : Qs B w q L) (hd : L.Pairwise (fun x y => x.1 ≠ y.1)) (hok : ∀ x ∈ L, 0 ≤ x.1 ∧ Is64 x.1 ∧ Is64 x.2) (hl : L.length < 1099511627776) (hB : B ≤ w.heap.size) :
    Calls Try.prog 21 #[.pointer (some ⟨q.qb, 0, none⟩)] w fun E w' => ∃ r, E = .returned (.pointer (some ⟨r.qb, 0, none⟩)) ∧ Qs B w' r L ∧ Kept (fun _ => False) w w' ∧ (∀ k, r.own k → w.heap.size ≤ k ∨ k = q.fb) ∧ r.fb = q.fb ∧ ∀ k, r.turns k ∨ k = r.qb → w.heap.size ≤ k := by
  have dif : K.Dif (L.map kN) := List.pairwise_map.2 hd
  have ok : ∀ x ∈ L.map kN, (0 ≤ x.1 ∧ Is64 x.1) ∧ Is64 x.2.1 ∧ Is64 x.2.2 := fun x hx => by
    obtain ⟨y, hy, rfl⟩ := List.mem_map.1 hx
    have := hok y hy
    exact ⟨⟨this.1, this.2.1⟩, this.2.2, this.2.1⟩
  have ln : (L.map kN).length < 1099511627776 := by rw [List.length_map]; exact hl
  have CU : Hid (∀ W', Below w.heap.size w W' → Calls Try.prog 53 #[.pointer (some ⟨q.hu, 0, none⟩)] W' fun E w' => ∃ hc, E = .returned (.pointer (some ⟨hc, 0, none⟩)) ∧ Hid (∃ mc rc, K.Hs K.upV K.ltK w.heap.size w' hc mc rc (L.map kN) ∧ Below w.heap.size w w' ∧ ∀ k, Mine hc mc rc k → k < w'.heap.size) ∧ w'.cell? ⟨q.qb, 0, none⟩ = some (.pointer (some ⟨q.hu, 0, none⟩)) ∧ w'.cell? ⟨q.qb, 1, none⟩ = some (.pointer (some ⟨q.hd, 0, none⟩))) := fun W' b => by
    have hq : Qs B W' q L := h.kept (kept_lies (S := fun _ => False) b) (fun _ _ x => x)
    refine (K.copy_any K.upV K.ltK B W' q.hu q.mu q.ru (L.map kN) hq.up dif ok ln).mono ?_
    rintro E w' ⟨hc, mc, rc, rfl, h1, k⟩
    have b2 : Below w.heap.size w w' := b.trans (k.below b.size (fun _ x => x.elim))
    have hq2 : Qs B w' q L := h.kept (kept_lies (S := fun _ => False) b2) (fun _ _ x => x)
    exact ⟨hc, rfl, ⟨mc, rc, K.Hs.lower h1 b.size, b2, h1.inside⟩, hq2.c0, hq2.c1⟩
  have CD : Hid (∀ W' hc, Hid (∃ mc rc, K.Hs K.upV K.ltK w.heap.size W' hc mc rc (L.map kN) ∧ Below w.heap.size w W' ∧ ∀ k, Mine hc mc rc k → k < W'.heap.size) → Calls Try.prog 53 #[.pointer (some ⟨q.hd, 0, none⟩)] W' fun E w' => ∃ hd, E = .returned (.pointer (some ⟨hd, 0, none⟩)) ∧ Hid (∃ mc rc md rd, K.Hs K.upV K.ltK w.heap.size w' hc mc rc (L.map kN) ∧ K.Hs (K.downV q.fb) K.ltD w.heap.size w' hd md rd (L.map kN) ∧ Below w.heap.size w w' ∧ ∀ k, Mine hc mc rc k → Mine hd md rd k → False) ∧ w'.cell? ⟨q.qb, 0, none⟩ = some (.pointer (some ⟨q.hu, 0, none⟩)) ∧ w'.cell? ⟨q.qb, 1, none⟩ = some (.pointer (some ⟨q.hd, 0, none⟩))) := fun W' hc hh => by
    obtain ⟨mc, rc, h1, b, hin⟩ := hh.out
    have hq : Qs B W' q L := h.kept (kept_lies (S := fun _ => False) b) (fun _ _ x => x)
    refine (K.copy_any (K.downV q.fb) K.ltD B W' q.hd q.md q.rd (L.map kN) hq.down dif ok ln).mono ?_
    rintro E w' ⟨hd', md, rd, rfl, h2, k⟩
    have b2 : Below w.heap.size w w' := b.trans (k.below b.size (fun _ x => x.elim))
    have hq2 : Qs B w' q L := h.kept (kept_lies (S := fun _ => False) b2) (fun _ _ x => x)
    exact ⟨hd', rfl, ⟨mc, rc, md, rd, h1.kept k (fun _ _ x => x) (fun _ _ x => x.elim), K.Hs.lower h2 b.size, b2, fun j ha hb => by have := hin j ha; have := h2.base j hb; omega⟩, hq2.c0, hq2.c1⟩
  have FIN : Hid (∀ W' hc hd, Hid (∃ mc rc md rd, K.Hs K.upV K.ltK w.heap.size W' hc mc rc (L.map kN) ∧ K.Hs (K.downV q.fb) K.ltD w.heap.size W' hd md rd (L.map kN) ∧ Below w.heap.size w W' ∧ ∀ k, Mine hc mc rc k → Mine hd md rd k → False) →
      ∃ r : QB, r.qb = W'.heap.size ∧ Qs B (W'.alloc (.cells #[.pointer (some ⟨hc, 0, none⟩), .pointer (some ⟨hd, 0, none⟩)] 88)) r L ∧ Kept (fun _ => False) w (W'.alloc (.cells #[.pointer (some ⟨hc, 0, none⟩), .pointer (some ⟨hd, 0, none⟩)] 88)) ∧ (∀ k, r.own k → w.heap.size ≤ k ∨ k = q.fb) ∧ r.fb = q.fb ∧ ∀ k, r.turns k ∨ k = r.qb → w.heap.size ≤ k) := fun W' hc hd hh => by
    obtain ⟨mc, rc, md, rd, h1, h2, b, hap⟩ := hh.out
    have g : Grew W' (W'.alloc (.cells #[.pointer (some ⟨hc, 0, none⟩), .pointer (some ⟨hd, 0, none⟩)] 88)) := (Grew.refl W').alloc _
    have hbox : K.FBox (W'.alloc (.cells #[.pointer (some ⟨hc, 0, none⟩), .pointer (some ⟨hd, 0, none⟩)] 88)) q.fb := ((b.trans (g.below.mono b.size)).block q.fb h.box.lt).trans h.box
    have tn : ∀ k, (Mine hc mc rc k ∨ Mine hd md rd k) ∨ k = W'.heap.size → w.heap.size ≤ k := fun k hk => by
      rcases hk with (hk | hk) | rfl
      · exact h1.base k hk
      · exact h2.base k hk
      · exact b.size
    refine ⟨⟨W'.heap.size, hc, mc, rc, hd, md, rd, q.fb⟩, rfl, ⟨heap_alloc_new _ _, K.Hs.lower (h1.grew g) hB, K.Hs.lower (h2.grew g) hB, hbox, hap, Nat.le_trans hB b.size, h.base.2⟩, (kept_lies b).trans (g.kept _), ?_, rfl, tn⟩
    rintro k (hk | hk | hk)
    · exact .inl (tn k (.inl hk))
    · exact .inl (tn k (.inr hk))
    · exact .inr hk
  have c0 := h.c0
  have c1 := h.c1
  clear h hd hok hl hB dif ok ln
  go_enter Try.func21, Try.ntmps21
  go_wp2_with fail
  go_region_held3 (fun w' => w'.cell? ⟨q.qb, 0, none⟩ = some (.pointer (some ⟨q.hu, 0, none⟩)) ∧ w'.cell? ⟨q.qb, 1, none⟩ = some (.pointer (some ⟨q.hd, 0, none⟩)))
    (first | exact ⟨c0, c1⟩ | exact ⟨s0, s1⟩ | exact ⟨u0, u1⟩ | exact keep2 ⟨u0, u1⟩ (below_al _ _))
    (first
      | (go_at_call 53; (refine (CD.out _ _ hq9).mono ?_); rintro E w8 ⟨hd8, rfl, hq8, u0, u1⟩)
      | (go_at_call 53; (refine (CU.out _ (grewN w 1).below).mono ?_); rintro E w9 ⟨hc9, rfl, hq9, s0, s1⟩))
  obtain ⟨r, hr, f1⟩ := FIN.out _ _ _ hq8
  go_wp2
  go_ret
  refine ⟨r, ?_, f1⟩
  rw [hr]
  rfl

end Go.Proofs.Ytcipilggddpnpaa

/-
  The law's does, of queues: Move, Drop and Get.
-/
namespace Go.Proofs.Ytcipilggddpnpaa
open Go.RowKit Go.Shelf Go.Maps
set_option linter.unusedVariables false
set_option linter.unusedSimpArgs false

set_option maxHeartbeats 4000000 in
set_option maxRecDepth 20000 in
theorem does4_move {X : Nat} {W : World} {q : QB} {rf : Nat} {S : List Ent} (h : Pq X W q rf S) (hl : S.length + 20 < 1099511627776) (t id : Int) (hx : Is64 id ∧ Is64 t) (a : Option Addr) (n cap : Nat) :
    Calls Try.prog 19 #[.pointer (some ⟨q.qb, 0, none⟩), .pointer (some ⟨rf, 0, none⟩), .agg #[.int .i64 1, .int .i64 t, .int .i64 id, .slice a n cap]] W fun E w' => E = .returned (.bool true) ∧ Did4 X W w' q rf S.length := by
  obtain ⟨W0, hW0⟩ : ∃ W0, W.alloc (.cells #[.int .i64 1, .int .i64 t, .int .i64 id, .slice a n cap] 51) = W0 := ⟨_, rfl⟩
  have b0 : Below W.heap.size W W0 := by rw [← hW0]; exact (Below.refl _ _).alloc (Nat.le_refl _) _
  have o0 : Op4 W0 W.heap.size 1 t id a n cap := by rw [← hW0]; exact heap_alloc_new _ _
  have P0 := Lib.hid (h.lies b0)
  have HB : Hid (Below W.heap.size W W0 ∧ X ≤ W.heap.size ∧ S.length + 20 < 1099511627776) := ⟨b0, h.base, hl⟩
  have OFF : Hid ((∀ k, q.own k → k < W.heap.size) ∧ rf < W.heap.size) := ⟨fun k hk => h.queue.lt k hk, h.ref.lt⟩
  have HO := Lib.hid o0
  have HW := Lib.hid hW0
  obtain ⟨ob, hob⟩ : ∃ ob, W.heap.size = ob := ⟨_, rfl⟩
  have CA : Hid (∀ W', Below W0.heap.size W0 W' → Calls Try.prog 31 #[.pointer (some ⟨q.qb, 0, none⟩), .agg #[.int .i64 t, .int .i64 id]] W' fun E w' => E = .returned (.int .i64 (moveR S (id, t))) ∧ Hid (Qs X w' q (moveL S (id, t)) ∧ RefIs X w' rf S ∧ Bel4 X q rf W w' ∧ Op4 w' ob 1 t id a n cap) ∧ w'.cell? ⟨ob, 1, none⟩ = some (.int .i64 t) ∧ w'.cell? ⟨ob, 2, none⟩ = some (.int .i64 id)) := fun W' b => by
    have p := P0.out.lies b
    have bX : Below X W W' := (HB.out.1.mono HB.out.2.1).trans (b.mono (Nat.le_trans HB.out.2.1 HB.out.1.size))
    refine (qmove_any p.queue p.diff (id, t) hx).mono ?_
    rintro E w' ⟨rfl, lq⟩
    have oo : Op4 w' ob 1 t id a n cap := by
      rw [← hob]
      exact (HO.out.lies b).kept lq.kept (fun hs => by have := OFF.out.1 _ (.inl hs); omega)
    exact ⟨rfl, ⟨lq.queue, p.ref.besideQ p.queue lq.kept, ⟨bX.trans (lq.below p.queue p.base), (kept_lies (HB.out.1.trans (b.mono HB.out.1.size))).trans (lq.kept.mono (fun _ _ h => .inl h))⟩, oo⟩, oo.cells.1.2, oo.cells.2.1⟩
  have CB : Hid (∀ W', Hid (Qs X W' q (moveL S (id, t)) ∧ RefIs X W' rf S ∧ Bel4 X q rf W W' ∧ Op4 W' ob 1 t id a n cap) → Calls Try.prog 46 #[.pointer (some ⟨rf, 0, none⟩), .agg #[.int .i64 t, .int .i64 id]] W' fun E w' => E = .returned (.int .i64 (moveR S (id, t))) ∧ Hid (Did4 X W w' q rf S.length) ∧ w'.cell? ⟨ob, 1, none⟩ = some (.int .i64 t) ∧ w'.cell? ⟨ob, 2, none⟩ = some (.int .i64 id)) := fun W' hh => by
    obtain ⟨ts, rr, ⟨bl, bk⟩, oo⟩ := hh.out
    have hB : X ≤ W'.heap.size := Nat.le_trans HB.out.2.1 bl.size
    refine (rmove4_any rr P0.out.diff hB (by have := HB.out.2.2; omega) (id, t)).mono ?_
    rintro E w' ⟨rfl, rn, k⟩
    have oo' : Op4 w' ob 1 t id a n cap := oo.kept k (fun hs => by have := OFF.out.2; omega)
    have pn := moveS_perm S (id, t)
    refine ⟨rfl, ⟨q, moveS S (id, t), ⟨(ts.besideR rr k).perm pn.symm, rn, moveS_sorted P0.out.sorted _, moveS_diff P0.out.diff _, fun x hx' => moveL_facts P0.out.diff P0.out.good hx x (pn.mem_iff.1 hx'), Nat.le_trans hB k.size, P0.out.rb⟩, rfl, ?_, ⟨bl.trans (k.below hB (fun j e => by rw [e]; exact P0.out.rb)), bk.trans (k.mono (fun _ _ e => .inr e))⟩, fun _ h => .inl h⟩, oo'.cells.1.2, oo'.cells.2.1⟩
    have := moveS_len S (id, t)
    omega
  obtain ⟨⟨k0, k1⟩, k2, _⟩ := o0.cells
  clear h b0 o0 hW0 hl hx
  rw [hob] at k0 k1 k2
  generalize moveR S (id, t) = r at *
  have rr : (r == r) = true := by simp
  go_enter Try.func19, Try.ntmps19
  go_wp2_with fail
  rw [HW.out]
  try rw [hob]
  go_region_held3 (fun w' => w'.cell? ⟨ob, 1, none⟩ = some (.int .i64 t) ∧ w'.cell? ⟨ob, 2, none⟩ = some (.int .i64 id))
    (first | exact ⟨k1, k2⟩ | exact ⟨s0, s1⟩ | exact ⟨u0, u1⟩)
    (first
      | (go_at_call 46; (with_reducible refine (CB.out _ hq9).mono ?_); rintro E w8 ⟨rfl, hq8, u0, u1⟩)
      | (go_at_call 31; (refine (CA.out _ (grewN W0 1).below).mono ?_); rintro E w9 ⟨rfl, hq9, s0, s1⟩))
  have R8 := hq8
  clear CA CB k0 k1 k2 u0 u1 hq8
  go_wp2
  go_ret
  exact ⟨rfl, R8.out⟩

/-- What both, and the call, are between two steps of does. -/
structure Mid4 (X : Nat) (W W' : World) (q : QB) (rf : Nat) (S : List Ent) (ob : Nat) (k t id : Int) (a : Option Addr) (n cap : Nat) : Prop where
  pq : Pq X W' q rf S
  op : Op4 W' ob k t id a n cap
  low : Below X W W'
theorem Mid4.lies {X : Nat} {W W' W2 : World} {q : QB} {rf : Nat} {S : List Ent} {ob : Nat} {k t id : Int} {a : Option Addr} {n cap : Nat} (h : Mid4 X W W' q rf S ob k t id a n cap) (b : Below W'.heap.size W' W2) : Mid4 X W W2 q rf S ob k t id a n cap :=
  ⟨h.pq.lies b, h.op.lies b, h.low.trans (b.mono h.pq.base)⟩

set_option maxHeartbeats 4000000 in
set_option maxRecDepth 20000 in
/-- No such server: Drop or Get. -/
theorem does4_none {X : Nat} {W : World} {q : QB} {rf : Nat} {S : List Ent} (h : Pq X W q rf S) (hl : S.length + 20 < 1099511627776) (k t id : Int) (hk : k ≠ 0 ∧ k ≠ 1) (hx : Is64 id ∧ Is64 t) (a : Option Addr) (n cap : Nat) (hn : has S id = false) :
    Calls Try.prog 19 #[.pointer (some ⟨q.qb, 0, none⟩), .pointer (some ⟨rf, 0, none⟩), .agg #[.int .i64 k, .int .i64 t, .int .i64 id, .slice a n cap]] W fun E w' => E = .returned (.bool true) ∧ Did4 X W w' q rf S.length := by
  obtain ⟨W0, hW0⟩ : ∃ W0, W.alloc (.cells #[.int .i64 k, .int .i64 t, .int .i64 id, .slice a n cap] 51) = W0 := ⟨_, rfl⟩
  have b0 : Below W.heap.size W W0 := by rw [← hW0]; exact (Below.refl _ _).alloc (Nat.le_refl _) _
  have o0 : Op4 W0 W.heap.size k t id a n cap := by rw [← hW0]; exact heap_alloc_new _ _
  have M0 : Hid (Mid4 X W W0 q rf S W.heap.size k t id a n cap) := ⟨h.lies b0, o0, b0.mono h.base⟩
  have HW := Lib.hid hW0
  have n0 : (k == 0) = false := by simpa using hk.1
  have n1 : (k == 1) = false := by simpa using hk.2
  have hno := has_no.1 hn
  have CR := Lib.hid (refAt_any X W0 rf S (by omega) M0.out.pq.ref id)
  rw [find_not h.diff hn] at CR
  have CG : Hid (∀ W', Below W0.heap.size W0 W' → Calls Try.prog 30 #[.pointer (some ⟨q.qb, 0, none⟩), .int .i64 id] W' fun E w' => E = .returned (.tuple #[.agg #[.int .i64 0, .int .i64 0], .int .i64 14]) ∧ Below W'.heap.size W' w') := fun W' b =>
    (qget_none (M0.out.lies b).pq.queue id hx.1 hno).mono fun _ _ ⟨e, g⟩ => ⟨e, g.below⟩
  have CD : Hid (∀ W', Below W0.heap.size W0 W' → Calls Try.prog 48 #[.pointer (some ⟨q.qb, 0, none⟩), .int .i64 id] W' fun E w' => E = .returned (.tuple #[.agg #[.int .i64 0, .int .i64 0], .int .i64 14]) ∧ Below W'.heap.size W' w') := fun W' b =>
    (qdrop_none (M0.out.lies b).pq.queue id hx.1 hno).mono fun _ _ ⟨e, g⟩ => ⟨e, g.below⟩
  have DONE : Hid (∀ W', Below W0.heap.size W0 W' → Did4 X W W' q rf S.length) := fun W' b => ⟨q, S, (M0.out.lies b).pq, rfl, by omega, ⟨(M0.out.lies b).low, kept_lies (b0.trans (b.mono b0.size))⟩, fun _ h => .inl h⟩
  obtain ⟨⟨k0, _⟩, k2, _⟩ := o0.cells
  clear h b0 hW0 hl hx hk hno hn o0
  have t1 : decide ((-1 : Int) < 0) = true := by decide
  by_cases h2 : k = 2
  · have n2 : (k == 2) = true := by simpa using h2
    clear h2
    go_enter Try.func19, Try.ntmps19
    go_wp2_with fail
    rw [HW.out]
    refine CR.out.mono ?_
    rintro E w1 ⟨rfl, hw1⟩
    subst hw1
    go_wp2_with fail
    refine (CG.out _ (Below.refl _ _)).mono ?_
    rintro E w2 ⟨rfl, b2⟩
    have B3 : Hid (Below w1.heap.size w1 (w2.alloc (.cells #[.int .i64 0, .int .i64 0] 37))) := b2.trans ((below_al w2 _).mono b2.size)
    have ltob : W.heap.size < w2.heap.size := Nat.lt_of_lt_of_le M0.out.op.lt b2.size
    obtain ⟨⟨j0, _⟩, j2, _⟩ := (M0.out.op.lies b2).cells
    have L1 := Lib.hid b2.size
    clear b2 k0 k2
    go_wp2_with fail
    refine (CD.out _ B3.out).mono ?_
    rintro E w3 ⟨rfl, b3⟩
    have K3 := Lib.hid ((B2.start w2 0 0).next b3)
    have B4 := Lib.hid (B3.out.trans (b3.mono B3.out.size))
    obtain ⟨x0, x1⟩ := K3.out.cells
    obtain ⟨f0, f1⟩ := K3.out.thaw
    have L2 : Hid (w1.heap.size ≤ w2.heap.size ∧ w2.heap.size < w3.heap.size) := ⟨L1.out, K3.out.lt⟩
    clear b3 j0 j2
    go_wp2
    go_ret
    exact ⟨rfl, DONE.out _ ((B4.out.setCell (p := ⟨w2.heap.size, 0, none⟩) L2.out.1 _).setCell (p := ⟨w2.heap.size, 1, none⟩) L2.out.1 _)⟩
  · have n2 : (k == 2) = false := by simpa using h2
    clear h2
    go_enter Try.func19, Try.ntmps19
    go_wp2_with fail
    rw [HW.out]
    refine CR.out.mono ?_
    rintro E w1 ⟨rfl, hw1⟩
    subst hw1
    go_wp2_with fail
    refine (CG.out _ (Below.refl _ _)).mono ?_
    rintro E w2 ⟨rfl, b2⟩
    have B3 : Hid (Below w1.heap.size w1 (w2.alloc (.cells #[.int .i64 0, .int .i64 0] 37))) := b2.trans ((below_al w2 _).mono b2.size)
    have ltob : W.heap.size < w2.heap.size := Nat.lt_of_lt_of_le M0.out.op.lt b2.size
    obtain ⟨⟨j0, _⟩, j2, _⟩ := (M0.out.op.lies b2).cells
    clear b2 k0 k2
    go_wp2
    go_ret
    exact ⟨rfl, DONE.out _ B3.out⟩

set_option maxHeartbeats 4000000 in
set_option maxRecDepth 20000 in
/-- There is such a server: Get. -/
theorem does4_get {X : Nat} {W : World} {q : QB} {rf : Nat} {S : List Ent} (h : Pq X W q rf S) (hl : S.length + 20 < 1099511627776) (k t id : Int) (hk : k ≠ 0 ∧ k ≠ 1) (hk2 : k ≠ 2) (a : Option Addr) (n cap : Nat) (hn : has S id = true) :
    Calls Try.prog 19 #[.pointer (some ⟨q.qb, 0, none⟩), .pointer (some ⟨rf, 0, none⟩), .agg #[.int .i64 k, .int .i64 t, .int .i64 id, .slice a n cap]] W fun E w' => E = .returned (.bool true) ∧ Did4 X W w' q rf S.length := by
  obtain ⟨W0, hW0⟩ : ∃ W0, W.alloc (.cells #[.int .i64 k, .int .i64 t, .int .i64 id, .slice a n cap] 51) = W0 := ⟨_, rfl⟩
  have b0 : Below W.heap.size W W0 := by rw [← hW0]; exact (Below.refl _ _).alloc (Nat.le_refl _) _
  have o0 : Op4 W0 W.heap.size k t id a n cap := by rw [← hW0]; exact heap_alloc_new _ _
  have M0 : Hid (Mid4 X W W0 q rf S W.heap.size k t id a n cap) := ⟨h.lies b0, o0, b0.mono h.base⟩
  have HW := Lib.hid hW0
  have n0 : (k == 0) = false := by simpa using hk.1
  have n1 : (k == 1) = false := by simpa using hk.2
  have n2 : (k == 2) = false := by simpa using hk2
  have DONE : Hid (∀ W', Below W0.heap.size W0 W' → Did4 X W W' q rf S.length) := fun W' b => ⟨q, S, (M0.out.lies b).pq, rfl, by omega, ⟨(M0.out.lies b).low, kept_lies (b0.trans (b.mono b0.size))⟩, fun _ h => .inl h⟩
  rcases find_any h.diff id with ⟨_, i, hi, hr, hf⟩ | ⟨e, _⟩
  · have CR := Lib.hid (refAt_any X W0 rf S (by omega) M0.out.pq.ref id)
    rw [hf] at CR
    obtain ⟨at_, hat⟩ : ∃ at_, (S.getD i (0, 0)).2 = at_ := ⟨_, rfl⟩
    have hmem : (id, at_) ∈ S := by
      have e : S.getD i (0, 0) = (id, at_) := by rw [← hr, ← hat]; rfl
      rw [← e]
      exact mem_getD hi
    have CG : Hid (∀ W', Below W0.heap.size W0 W' → Calls Try.prog 30 #[.pointer (some ⟨q.qb, 0, none⟩), .int .i64 id] W' fun E w' => E = .returned (.tuple #[.agg #[.int .i64 at_, .int .i64 id], .int .i64 0]) ∧ Below W'.heap.size W' w') := fun W' b =>
      (qget_there (M0.out.lies b).pq.queue (id, at_) hmem).mono fun _ _ ⟨e, g⟩ => ⟨e, g.below⟩
    have HA : Hid (∀ W', Below W0.heap.size W0 W' → ∃ a cap g, W'.cell? ⟨rf, 0, none⟩ = some (.slice a S.length cap) ∧ a = some ⟨g, 0, none⟩ ∧ W'.cell? ⟨g, i * 2, none⟩ = some (.int .i64 at_) ∧ W'.cell? ⟨g, i * 2 + 1, none⟩ = some (.int .i64 id)) := fun W' b => by
      obtain ⟨a, cap, e1, e2⟩ := (M0.out.lies b).pq.ref.at
      obtain ⟨g, e3, e4, e5⟩ := e2 i hi
      rw [hr] at e5
      exact ⟨a, cap, g, e1, e3, by rw [← hat]; exact e4, e5⟩
    have t1 : decide ((i : Int) < 0) = false := decide_eq_false (by omega)
    have t2 : (i : Int) < (S.length : Int) := by omega
    have t3 : decide (i < S.length) = true := decide_eq_true hi
    obtain ⟨⟨k0, _⟩, k2, _⟩ := o0.cells
    clear h b0 hW0 hl hk hk2 hn o0 hf hr hat hmem
    generalize S.length = len at *
    go_enter Try.func19, Try.ntmps19
    go_wp2_with fail
    rw [HW.out]
    refine CR.out.mono ?_
    rintro E w1 ⟨rfl, hw1⟩
    subst hw1
    go_wp2_with fail
    refine (CG.out _ (Below.refl _ _)).mono ?_
    rintro E w2 ⟨rfl, b2⟩
    obtain ⟨W3, hW3⟩ : ∃ W3, w2.alloc (.cells #[.int .i64 at_, .int .i64 id] 37) = W3 := ⟨_, rfl⟩
    have HW3 := Lib.hid hW3
    have B3 : Hid (Below w1.heap.size w1 W3) := by rw [← hW3]; exact b2.trans ((below_al w2 _).mono b2.size)
    have K3 : Hid (B2 W3 w2.heap.size at_ id) := by rw [← hW3]; exact B2.start w2 at_ id
    have ltob : W.heap.size < w2.heap.size := Nat.lt_of_lt_of_le M0.out.op.lt b2.size
    obtain ⟨⟨j0, _⟩, j2, _⟩ := (M0.out.lies B3.out).op.cells
    obtain ⟨ra, rc, g, y0, rfl, y1, y2⟩ := HA.out W3 B3.out
    obtain ⟨x0, x1⟩ := K3.out.cells
    clear b2 k0 k2 hW3 ltob
    have lt3 := K3.out.lt
    have lt4 : W.heap.size < W3.heap.size := (M0.out.lies B3.out).op.lt
    go_upto_region 8 with (fail)
    rw [HW3.out]
    go_wp2
    go_ret
    exact ⟨rfl, DONE.out _ (B3.out.trans ((below_al W3 _).mono B3.out.size))⟩
  · rw [e] at hn; cases hn
end Go.Proofs.Ytcipilggddpnpaa

/-
  The law's does, of queues: Drop of a server that is there; does as one contract.
-/
namespace Go.Proofs.Ytcipilggddpnpaa
open Go.RowKit Go.Shelf Go.Maps
set_option linter.unusedVariables false
set_option linter.unusedSimpArgs false

set_option maxHeartbeats 4000000 in
set_option maxRecDepth 20000 in
theorem does4_drop {X : Nat} {W : World} {q : QB} {rf : Nat} {S : List Ent} (h : Pq X W q rf S) (hl : S.length + 20 < 1099511627776) (t id : Int) (a : Option Addr) (n cap : Nat) (hn : has S id = true) :
    Calls Try.prog 19 #[.pointer (some ⟨q.qb, 0, none⟩), .pointer (some ⟨rf, 0, none⟩), .agg #[.int .i64 2, .int .i64 t, .int .i64 id, .slice a n cap]] W fun E w' => E = .returned (.bool true) ∧ Did4 X W w' q rf S.length := by
  obtain ⟨W0, hW0⟩ : ∃ W0, W.alloc (.cells #[.int .i64 2, .int .i64 t, .int .i64 id, .slice a n cap] 51) = W0 := ⟨_, rfl⟩
  have b0 : Below W.heap.size W W0 := by rw [← hW0]; exact (Below.refl _ _).alloc (Nat.le_refl _) _
  have o0 : Op4 W0 W.heap.size 2 t id a n cap := by rw [← hW0]; exact heap_alloc_new _ _
  have M0 : Hid (Mid4 X W W0 q rf S W.heap.size 2 t id a n cap) := ⟨h.lies b0, o0, b0.mono h.base⟩
  have HB0 := Lib.hid b0
  have OFF : Hid ((∀ k, q.own k → k < W.heap.size) ∧ rf < W.heap.size ∧ W.heap.size < W0.heap.size) := ⟨fun k hk => h.queue.lt k hk, h.ref.lt, o0.lt⟩
  have HW := Lib.hid hW0
  rcases find_any h.diff id with ⟨_, i, hi, hr, hf⟩ | ⟨e, _⟩
  · have CR := Lib.hid (refAt_any X W0 rf S (by omega) M0.out.pq.ref id)
    rw [hf] at CR
    obtain ⟨at_, hat⟩ : ∃ at_, (S.getD i (0, 0)).2 = at_ := ⟨_, rfl⟩
    have hgd : S.getD i (0, 0) = (id, at_) := by rw [← hr, ← hat]; rfl
    have hmem : (id, at_) ∈ S := by
      rw [← hgd]
      exact mem_getD hi
    have CG : Hid (∀ W', Below W0.heap.size W0 W' → Calls Try.prog 30 #[.pointer (some ⟨q.qb, 0, none⟩), .int .i64 id] W' fun E w' => E = .returned (.tuple #[.agg #[.int .i64 at_, .int .i64 id], .int .i64 0]) ∧ Below W'.heap.size W' w') := fun W' b =>
      (qget_there (M0.out.lies b).pq.queue (id, at_) hmem).mono fun _ _ ⟨e, g⟩ => ⟨e, g.below⟩
    have CD : Hid (∀ W', Below W0.heap.size W0 W' → Calls Try.prog 48 #[.pointer (some ⟨q.qb, 0, none⟩), .int .i64 id] W' fun E w' => E = .returned (.tuple #[.agg #[.int .i64 at_, .int .i64 id], .int .i64 0]) ∧ LeftQ X W' w' q q (S.erase (id, at_))) := fun W' b =>
      qdrop_there (M0.out.lies b).pq.queue (id, at_) hmem
    have HA : Hid (∀ W', RefIs X W' rf S → ∃ a cap g, W'.cell? ⟨rf, 0, none⟩ = some (.slice a S.length cap) ∧ a = some ⟨g, 0, none⟩ ∧ W'.cell? ⟨g, i * 2, none⟩ = some (.int .i64 at_) ∧ W'.cell? ⟨g, i * 2 + 1, none⟩ = some (.int .i64 id)) := fun W' r => by
      obtain ⟨a, cap, e1, e2⟩ := r.at
      obtain ⟨g, e3, e4, e5⟩ := e2 i hi
      rw [hr] at e5
      exact ⟨a, cap, g, e1, e3, by rw [← hat]; exact e4, e5⟩
    have CX : Hid (∀ W', X ≤ W'.heap.size → RefIs X W' rf S → Calls Try.prog 49 #[.pointer (some ⟨rf, 0, none⟩), .int .i64 id] W' fun E w' => (∃ z, E = .returned (.tuple #[.int .i64 z, .int .i64 0])) ∧ RefIs X w' rf (S.eraseIdx i) ∧ Kept (fun k => k = rf) W' w') := fun W' hX r =>
      (refDrop_there X W' rf S (by omega) hX r id i hi hf).mono fun _ _ ⟨e, h1, h2⟩ => ⟨⟨_, e⟩, h1, h2⟩
    have DONE : Hid (∀ W6 w7, Qs X W6 q (S.erase (id, at_)) → RefIs X W6 rf S → RefIs X w7 rf (S.eraseIdx i) → Kept (fun k => k = rf) W6 w7 → Bel4 X q rf W W6 → Did4 X W w7 q rf S.length) := fun W6 w7 hq h6 h7 hk hb => by
      have eb : S.eraseIdx i = but S id := by rw [but_at h.diff hi, hr]
      have pe : (S.erase (id, at_)).Perm (S.eraseIdx i) := by
        have := erase_is hi
        rw [hgd] at this
        exact this
      have hX : X ≤ W6.heap.size := Nat.le_trans h.base hb.1.size
      refine ⟨q, S.eraseIdx i, ⟨(hq.besideR h6 hk).perm pe, h7, ?_, ?_, ?_, Nat.le_trans hX hk.size, h.rb⟩, rfl, ?_, ⟨hb.1.trans (hk.below hX (fun j e => by rw [e]; exact h.rb)), hb.2.trans (hk.mono (fun _ _ e => .inr e))⟩, fun _ h => .inl h⟩
      · rw [eb]; exact sorted_filter h.sorted _
      · rw [eb]; exact diff_but h.diff _
      · rw [eb]; exact fun x hx => h.good x (List.mem_filter.1 hx).1
      · rw [eb]
        have := but_len S id
        omega
    have t1 : decide ((i : Int) < 0) = false := decide_eq_false (by omega)
    have t2 : (i : Int) < (S.length : Int) := by omega
    have t3 : decide (i < S.length) = true := decide_eq_true hi
    obtain ⟨⟨k0, _⟩, k2, _⟩ := o0.cells
    have HX := Lib.hid h.base
    clear h b0 hW0 hl hn o0 hf hr hat hmem hgd
    generalize S.length = len at *
    go_enter Try.func19, Try.ntmps19
    go_wp2_with fail
    rw [HW.out]
    refine CR.out.mono ?_
    rintro E w1 ⟨rfl, hw1⟩
    subst hw1
    go_wp2_with fail
    refine (CG.out _ (Below.refl _ _)).mono ?_
    rintro E w2 ⟨rfl, b2⟩
    obtain ⟨W3, hW3⟩ : ∃ W3, w2.alloc (.cells #[.int .i64 at_, .int .i64 id] 37) = W3 := ⟨_, rfl⟩
    have HW3 := Lib.hid hW3
    have B3 : Hid (Below w1.heap.size w1 W3) := by rw [← hW3]; exact b2.trans ((below_al w2 _).mono b2.size)
    have K3 : Hid (B2 W3 w2.heap.size at_ id) := by rw [← hW3]; exact B2.start w2 at_ id
    have L2 := Lib.hid b2.size
    obtain ⟨⟨j0, _⟩, j2, _⟩ := (M0.out.lies B3.out).op.cells
    clear b2 k0 k2 hW3
    go_upto_region 8 with (fail)
    rw [HW3.out]
    go_wp2_with fail
    refine (CD.out _ B3.out).mono ?_
    rintro E w4 ⟨rfl, l4⟩
    obtain ⟨W5, hW5⟩ : ∃ W5, (w4.setCell ⟨w2.heap.size, 0, none⟩ (.int .i64 at_)).setCell ⟨w2.heap.size, 1, none⟩ (.int .i64 id) = W5 := ⟨_, rfl⟩
    have HW5 := Lib.hid hW5
    have nt : ∀ k, q.own k → k < w1.heap.size := fun k hk => Nat.lt_trans (OFF.out.1 k hk) OFF.out.2.2
    have K4 : B2 w4 w2.heap.size at_ id := K3.out.kept l4.kept (fun hs => by have := nt _ (.inl hs); have := L2.out; omega)
    have kq : Kept q.turns w1 W5 := by
      rw [← hW5]
      exact (((kept_lies B3.out).trans l4.kept).setCell (p := ⟨w2.heap.size, 0, none⟩) (.inr L2.out) _).setCell (p := ⟨w2.heap.size, 1, none⟩) (.inr L2.out) _
    have S5 : Hid (Qs X W5 q (S.erase (id, at_)) ∧ RefIs X W5 rf S ∧ Op4 W5 W.heap.size 2 t id a n cap ∧ B2 W5 w2.heap.size at_ id ∧ Bel4 X q rf W W5) := by
      refine ⟨?_, M0.out.pq.ref.besideQ M0.out.pq.queue kq, M0.out.op.kept kq (fun hs => by have := OFF.out.1 _ (.inl hs); omega), ?_, ⟨M0.out.low.trans (kq.below M0.out.pq.base (fun k hk => M0.out.pq.queue.from k (.inl hk))), (kept_lies HB0.out).trans (kq.mono (fun _ _ h => .inl h))⟩⟩
      · rw [← hW5]
        refine l4.queue.kept (((Kept.refl (fun k => k = w2.heap.size) w4).setCell (p := ⟨w2.heap.size, 0, none⟩) (.inl rfl) (.int .i64 at_)).setCell (p := ⟨w2.heap.size, 1, none⟩) (.inl rfl) (.int .i64 id)) (fun b hb e => by have := nt b hb; have := L2.out; omega)
      · rw [← hW5]
        exact K4.set at_ id
    obtain ⟨x0, x1⟩ := K4.cells
    obtain ⟨f0, f1⟩ := K4.thaw
    clear l4 kq K4 hW5 j0 j2 nt
    go_upto_region 10 with (fail)
    rw [HW5.out]
    clear x0 x1 f0 f1
    obtain ⟨W6, hW6⟩ : ∃ W6, W5.alloc (.cells #[.int .i64 at_, .int .i64 id] 37) = W6 := ⟨_, rfl⟩
    have HW6 := Lib.hid hW6
    have b6 : Below W5.heap.size W5 W6 := by rw [← hW6]; exact below_al W5 _
    have K6 : Hid (B2 W6 W5.heap.size at_ id) := by rw [← hW6]; exact B2.start W5 at_ id
    have S6 : Hid (Qs X W6 q (S.erase (id, at_)) ∧ RefIs X W6 rf S ∧ Op4 W6 W.heap.size 2 t id a n cap ∧ B2 W6 w2.heap.size at_ id ∧ Bel4 X q rf W W6) :=
      ⟨S5.out.1.kept (kept_lies (S := fun _ => False) b6) (fun _ _ x => x), S5.out.2.1.lies b6, S5.out.2.2.1.lies b6, S5.out.2.2.2.1.next b6, ⟨S5.out.2.2.2.2.1.trans (b6.mono (Nat.le_trans HX.out S5.out.2.2.2.2.1.size)), S5.out.2.2.2.2.2.trans (kept_lies b6)⟩⟩
    obtain ⟨ra, rc, g, y0, rfl, y1, y2⟩ := HA.out W5 S5.out.2.1
    clear b6 hW6
    go_upto_region 13 with (fail)
    rw [HW6.out]
    clear y0 y1 y2
    obtain ⟨⟨j0, _⟩, j2, _⟩ := S6.out.2.2.1.cells
    go_wp2_with fail
    refine (CX.out _ (Nat.le_trans HX.out S6.out.2.2.2.2.1.size) S6.out.2.1).mono ?_
    rintro E w7 ⟨⟨z, rfl⟩, r7, k7⟩
    have D7 := Lib.hid (DONE.out W6 w7 S6.out.1 S6.out.2.1 r7 k7 S6.out.2.2.2.2)
    obtain ⟨x0, x1⟩ := (S6.out.2.2.2.1.kept k7 (fun e => by have := OFF.out.2.1; have := OFF.out.2.2; have := L2.out; omega)).cells
    obtain ⟨y0, y1⟩ := (K6.out.kept k7 (fun e => by have := OFF.out.2.1; have := S5.out.2.2.1.lt; omega)).cells
    clear r7 k7 j0 j2
    go_wp2
    go_ret
    exact ⟨rfl, D7.out⟩
  · rw [e] at hn; cases hn

/-- One call of both. -/
theorem does4_any {X : Nat} {W : World} {q : QB} {rf : Nat} {S l : List Ent} (h : Pq X W q rf S) (hl : S.length + 20 < 1099511627776) (k t id : Int) (hx : Is64 id ∧ Is64 t) (a : Option Addr) (cap : Nat) (hk : KeysIn X W a l) (h20 : l.length ≤ 20) (hcap : l.length ≤ cap) :
    Calls Try.prog 19 #[.pointer (some ⟨q.qb, 0, none⟩), .pointer (some ⟨rf, 0, none⟩), .agg #[.int .i64 k, .int .i64 t, .int .i64 id, .slice a l.length cap]] W fun E w' => E = .returned (.bool true) ∧ Did4 X W w' q rf S.length := by
  by_cases h0 : k = 0
  · subst h0
    exact does4_put h hl t id a cap hk h20 hcap
  by_cases h1 : k = 1
  · subst h1
    exact does4_move h hl t id hx a _ cap
  by_cases hn : has S id = true
  · by_cases h2 : k = 2
    · subst h2
      exact does4_drop h hl t id a _ cap hn
    · exact does4_get h hl k t id ⟨h0, h1⟩ h2 a _ cap hn
  · exact does4_none h hl k t id ⟨h0, h1⟩ hx a _ cap (by simpa using hn)
end Go.Proofs.Ytcipilggddpnpaa

/-
  The laws of queues: what they share.
-/
namespace Go.Proofs.Ytcipilggddpnpaa
open Go.RowKit Go.Shelf Go.Maps
set_option linter.unusedVariables false
set_option linter.unusedSimpArgs false

/-- Behind i calls of both. -/
def At4 (X : Nat) (w W : World) (qb rf : Nat) (i : Nat) : Prop := ∃ q S, Pq X W q rf S ∧ q.qb = qb ∧ S.length ≤ 20 * i ∧ Below X w W
theorem At4.does {X : Nat} {w W : World} {qb rf i : Nat} (h : At4 X w W qb rf i) (hX : X ≤ w.heap.size) (hi : i < 1000) (k t id : Int) (hx : Is64 id ∧ Is64 t) (l : List Ent) (a : Option Addr) (cap : Nat) (hk : KeysIn X W a l) (h20 : l.length ≤ 20) (hcap : l.length ≤ cap) :
    Calls Try.prog 19 #[.pointer (some ⟨qb, 0, none⟩), .pointer (some ⟨rf, 0, none⟩), .agg #[.int .i64 k, .int .i64 t, .int .i64 id, .slice a l.length cap]] W fun E w' => E = .returned (.bool true) ∧ At4 X w w' qb rf (i + 1) := by
  obtain ⟨q, S, p, rfl, hS, hb⟩ := h
  refine (does4_any p (by omega) k t id hx a cap hk h20 hcap).mono ?_
  rintro E w' ⟨rfl, q', S', p', hq, hS', hb'⟩
  exact ⟨rfl, q', S', p', hq, by omega, hb.trans hb'.1.1⟩
/-- Two that have nothing yet. -/
theorem at4_new {X : Nat} {w w1 w2 : World} {q : QB} (h : Qs X w1 q []) (g : Grew w w1) (g2 : Grew w1 w2) (hX : X ≤ w.heap.size) : At4 X w (w2.alloc (.cells #[.slice none 0 0] 48)) q.qb w2.heap.size 0 := by
  have g3 : Grew w1 (w2.alloc (.cells #[.slice none 0 0] 48)) := g2.alloc _
  have gg := g.trans g3
  refine ⟨q, [], ⟨h.grew g3, ⟨none, 0, heap_alloc_new _ _, rfl, .inl ⟨rfl, rfl⟩⟩, List.Pairwise.nil, List.Pairwise.nil, fun x hx => (by cases hx), Nat.le_trans hX gg.size, ?_⟩, rfl, Nat.zero_le _, gg.below.mono hX⟩
  have := (g.trans g2).size
  omega
/-- A call's keys, in every later world. -/
theorem OpsAt4.keys {w W : World} {a : Option Addr} {n : Nat} {V : Nat → Int × Ent × List Ent} {A : Nat → Option Addr × Nat} {X : Nat} (h : OpsAt4 w a n V A) (b : Below w.heap.size w W) (hX : w.heap.size ≤ X) {i : Nat} (hi : i < n) : KeysIn X W (A i).1 (V i).2.2 := by
  rcases h with e | ⟨g, o, rfl, hg, hc⟩
  · omega
  obtain ⟨_, _, hk, _⟩ := hc i hi
  refine ⟨?_, fun hne y e => ?_⟩
  · rcases hk with e | ⟨g', o', e, hg', hc'⟩
    · exact .inl e
    · refine .inr ⟨g', o', e, Nat.lt_of_lt_of_le hg' b.size, fun k hk => ?_⟩
      obtain ⟨⟨k1, k2⟩, k3⟩ := hc' k hk
      exact ⟨⟨(b.cell (p := ⟨g', o' + k * 2, none⟩) hg').trans k1, (b.cell (p := ⟨g', o' + k * 2 + 1, none⟩) hg').trans k2⟩, k3⟩
  · rcases hk with e2 | ⟨g', o', e2, hg', _⟩
    · omega
    · rw [e] at e2
      cases e2
      exact Nat.lt_of_lt_of_le hg' hX
theorem first4 {S : List Ent} (hs : Sorted S) (h0 : 0 < S.length) : IsFirst S (S.getD 0 (0, 0)) := by
  refine ⟨mem_getD h0, fun y hy hne => ?_⟩
  obtain ⟨j, hj, rfl⟩ := List.getElem_of_mem hy
  have e0 : S.getD 0 (0, 0) = S[0] := by rw [List.getD_eq_getElem?_getD, List.getElem?_eq_getElem h0]; rfl
  rw [e0] at hne ⊢
  by_cases hj0 : j = 0
  · subst hj0; exact absurd rfl hne
  · exact List.pairwise_iff_getElem.1 hs 0 j h0 hj (by omega)
theorem last4 {S : List Ent} (hs : Sorted S) {p : Nat} (h0 : S.length = p + 1) : IsLast S (S.getD p (0, 0)) := by
  have hp : p < S.length := by omega
  refine ⟨mem_getD hp, fun y hy hne => ?_⟩
  obtain ⟨j, hj, rfl⟩ := List.getElem_of_mem hy
  have e0 : S.getD p (0, 0) = S[p] := by rw [List.getD_eq_getElem?_getD, List.getElem?_eq_getElem hp]; rfl
  rw [e0] at hne ⊢
  by_cases hj0 : j = p
  · subst hj0; exact absurd rfl hne
  · exact List.pairwise_iff_getElem.1 hs j p hj hp (by omega)
theorem sorted4 {S : List Ent} (hs : Sorted S) {j : Nat} (h : j + 1 < S.length) : ah (S.getD j (0, 0)) (S.getD (j + 1) (0, 0)) = true := by
  have := List.pairwise_iff_getElem.1 hs j (j + 1) (by omega) h (by omega)
  rw [List.getD_eq_getElem?_getD, List.getD_eq_getElem?_getD, List.getElem?_eq_getElem (by omega), List.getElem?_eq_getElem h]
  exact this
/-- A row of keys, in a block of its own. -/
structure All4 (B : Nat) (W : World) (ra : Option Addr) (len : Nat) (S : List Ent) : Prop where
  row : len = S.length
  cell : ∀ i, i < len → ∃ g, ra = some ⟨g, 0, none⟩ ∧ B ≤ g ∧ g < W.heap.size ∧ W.cell? ⟨g, i * 2, none⟩ = some (.int .i64 (S.getD i (0, 0)).2) ∧ W.cell? ⟨g, i * 2 + 1, none⟩ = some (.int .i64 (S.getD i (0, 0)).1)
  good : ∀ x ∈ S, Is64 x.1 ∧ Is64 x.2
theorem all4_own {w : World} {B : Nat} {a : Option Addr} {cap n : Nat} {T : List Ent} (h : w.ownsRow B 37 2 (.slice a n cap) n (flatR T)) (hT : ∀ x ∈ T, Is64 x.1 ∧ Is64 x.2) : All4 B w a n T ∧ n ≤ cap := by
  have hn : n = T.length := by have := h.1; rw [len_flatR] at this; omega
  have hk := own_keys h hT
  refine ⟨⟨hn, fun i hi => ?_, hT⟩, hk.2.2.1⟩
  rcases hk.1 with e | ⟨g, o, rfl, hg, hc⟩
  · omega
  have ho : o = 0 := by
    rcases h.2 with ⟨e, _⟩ | ⟨g', c, cur, e, _⟩
    · cases e
    · cases e; rfl
  subst ho
  obtain ⟨⟨k1, k2⟩, _⟩ := hc i (by omega)
  rw [Nat.zero_add] at k1 k2
  exact ⟨g, rfl, hk.2.2.2 _ rfl, hg, k1, k2⟩
theorem All4.kept {B : Nat} {W W' : World} {ra : Option Addr} {len : Nat} {S : List Ent} {T : Nat → Prop} (h : All4 B W ra len S) (k : Kept T W W') (hT : ∀ g, B ≤ g → ¬ T g) : All4 B W' ra len S :=
  ⟨h.row, fun i hi => by
    obtain ⟨g, e, hb, hg, c1, c2⟩ := h.cell i hi
    exact ⟨g, e, hb, Nat.lt_of_lt_of_le hg k.size, (k.cell (p := ⟨g, i * 2, none⟩) hg (hT g hb)).trans c1, (k.cell (p := ⟨g, i * 2 + 1, none⟩) hg (hT g hb)).trans c2⟩, h.good⟩
theorem All4.keys {B : Nat} {W : World} {ra : Option Addr} {len : Nat} {S : List Ent} (h : All4 B W ra len S) : KeysAt W ra S := by
  by_cases h0 : S.length = 0
  · exact .inl h0
  obtain ⟨g, e, hb, hg, _⟩ := h.cell 0 (by rw [h.row]; omega)
  refine .inr ⟨g, 0, e, hg, fun i hi => ?_⟩
  obtain ⟨g', e', _, _, c1, c2⟩ := h.cell i (by rw [h.row]; exact hi)
  rw [e] at e'
  cases e'
  rw [Nat.zero_add]
  exact ⟨⟨c1, c2⟩, h.good _ (mem_getD hi)⟩
end Go.Proofs.Ytcipilggddpnpaa

/-
  The laws of queues: a queue, its reference, and all of them in order; what each call answers there.
-/
namespace Go.Proofs.Ytcipilggddpnpaa
open Go.RowKit Go.Shelf Go.Maps
set_option linter.unusedVariables false
set_option linter.unusedSimpArgs false

/-- What there is behind the calls: both, and all of them in order. -/
structure Ord4 (X Y : Nat) (w W : World) (q : QB) (rf : Nat) (S : List Ent) (ra : Option Addr) (len : Nat) : Prop where
  pq : Pq X W q rf S
  all : All4 Y W ra len S
  low : Below X w W
  off : ∀ k, q.own k → k < Y
theorem Ord4.lies {X Y : Nat} {w W W' : World} {q : QB} {rf : Nat} {S : List Ent} {ra : Option Addr} {len : Nat} (h : Ord4 X Y w W q rf S ra len) (b : Below W.heap.size W W') : Ord4 X Y w W' q rf S ra len :=
  ⟨h.pq.lies b, h.all.kept (kept_lies (S := fun _ => False) b) (fun _ _ x => x), h.low.trans (b.mono h.pq.base), h.off⟩

theorem keep1r {W W' : World} {p : Addr} {v : Value} (h : W.cell? p = some v) (hb : Below W.heap.size W W') : W'.cell? p = some v := by
  rcases Nat.lt_or_ge p.block W.heap.size with hlt | hge
  · rw [hb.cell hlt]; exact h
  · simp [World.cell?, Array.getElem?_eq_none hge] at h

theorem Ord4.least {X Y : Nat} {w W : World} {q : QB} {rf : Nat} {S : List Ent} {ra : Option Addr} {len : Nat} (h : Ord4 X Y w W q rf S ra len) (hl : S.length < 1099511627776) (m : Int) :
    Calls Try.prog 24 #[.pointer (some ⟨q.qb, 0, none⟩), .int .i64 m] W fun E w' => ∃ a cap, E = .returned (.slice a (min m.toNat len) cap) ∧ All4 W.heap.size w' a (min m.toNat len) (S.take m.toNat) ∧ min m.toNat len ≤ cap ∧ Below W.heap.size W w' := by
  refine (qleast_any h.pq.queue (List.Perm.refl S) h.pq.sorted h.pq.diff hl m).mono ?_
  rintro E w' ⟨a, cap, rfl, hr, hk⟩
  have hlen := h.all.row
  obtain ⟨x1, x2⟩ := all4_own hr (fun x hx => (h.pq.good x (List.mem_of_mem_take hx)).2)
  rw [← hlen] at x1 x2 ⊢
  exact ⟨a, cap, rfl, x1, x2, hk.below (Nat.le_refl _) (fun _ x => x.elim)⟩
theorem Ord4.len {X Y : Nat} {w W : World} {q : QB} {rf : Nat} {S : List Ent} {ra : Option Addr} {len : Nat} (h : Ord4 X Y w W q rf S ra len) :
    Calls Try.prog 27 #[.pointer (some ⟨q.qb, 0, none⟩)] W fun E w' => E = .returned (.int .i64 len) ∧ W = w' := by
  rw [h.all.row]
  exact qlen_any h.pq.queue
theorem Ord4.first {X Y : Nat} {w W : World} {q : QB} {rf : Nat} {S : List Ent} {ra : Option Addr} {len : Nat} (h : Ord4 X Y w W q rf S ra len) :
    Calls Try.prog 28 #[.pointer (some ⟨q.qb, 0, none⟩)] W fun E w' => E = .returned (.tuple #[.agg #[.int .i64 (S.getD 0 (0, 0)).2, .int .i64 (S.getD 0 (0, 0)).1], .int .i64 (if len = 0 then 14 else 0)]) ∧ Below W.heap.size W w' := by
  have hlen := h.all.row
  by_cases h0 : len = 0
  · have e : S = [] := List.eq_nil_of_length_eq_zero (by omega)
    have hq := h.pq.queue
    rw [if_pos h0]
    subst e
    exact (qfirst_nil hq).mono fun _ _ ⟨e, g⟩ => ⟨e, g.below⟩
  · rw [if_neg h0]
    exact (qfirst_any h.pq.queue _ (first4 h.pq.sorted (by omega))).mono fun _ _ ⟨e, g⟩ => ⟨e, g.below⟩
theorem Ord4.last {X Y : Nat} {w W : World} {q : QB} {rf : Nat} {S : List Ent} {ra : Option Addr} {len : Nat} (h : Ord4 X Y w W q rf S ra len) :
    Calls Try.prog 29 #[.pointer (some ⟨q.qb, 0, none⟩)] W fun E w' => E = .returned (.tuple #[.agg #[.int .i64 (S.getD (len - 1) (0, 0)).2, .int .i64 (S.getD (len - 1) (0, 0)).1], .int .i64 (if len = 0 then 14 else 0)]) ∧ Below W.heap.size W w' := by
  have hlen := h.all.row
  by_cases h0 : len = 0
  · have e : S = [] := List.eq_nil_of_length_eq_zero (by omega)
    have hq := h.pq.queue
    rw [if_pos h0]
    subst e
    exact (qlast_nil hq).mono fun _ _ ⟨e, g⟩ => ⟨e, g.below⟩
  · rw [if_neg h0]
    exact (qlast_any h.pq.queue _ (last4 h.pq.sorted (by omega))).mono fun _ _ ⟨e, g⟩ => ⟨e, g.below⟩
theorem Ord4.get_none {X Y : Nat} {w W : World} {q : QB} {rf : Nat} {S : List Ent} {ra : Option Addr} {len : Nat} (h : Ord4 X Y w W q rf S ra len) (id : Int) (hi : Is64 id) (hn : has S id = false) :
    Calls Try.prog 30 #[.pointer (some ⟨q.qb, 0, none⟩), .int .i64 id] W fun E w' => E = .returned (.tuple #[.agg #[.int .i64 0, .int .i64 0], .int .i64 14]) ∧ Below W.heap.size W w' :=
  (qget_none h.pq.queue id hi (has_no.1 hn)).mono fun _ _ ⟨e, g⟩ => ⟨e, g.below⟩
theorem Ord4.get_there {X Y : Nat} {w W : World} {q : QB} {rf : Nat} {S : List Ent} {ra : Option Addr} {len : Nat} (h : Ord4 X Y w W q rf S ra len) (id t : Int) (hn : (id, t) ∈ S) :
    Calls Try.prog 30 #[.pointer (some ⟨q.qb, 0, none⟩), .int .i64 id] W fun E w' => E = .returned (.tuple #[.agg #[.int .i64 t, .int .i64 id], .int .i64 0]) ∧ Below W.heap.size W w' :=
  (qget_there h.pq.queue (id, t) hn).mono fun _ _ ⟨e, g⟩ => ⟨e, g.below⟩
theorem Ord4.move_none {X Y : Nat} {w W : World} {q : QB} {rf : Nat} {S : List Ent} {ra : Option Addr} {len : Nat} (h : Ord4 X Y w W q rf S ra len) (id t : Int) (hx : Is64 id ∧ Is64 t) (hn : has S id = false) :
    Calls Try.prog 31 #[.pointer (some ⟨q.qb, 0, none⟩), .agg #[.int .i64 t, .int .i64 id]] W fun E w' => E = .returned (.int .i64 14) ∧ Below X W w' := by
  refine (qmove_any h.pq.queue h.pq.diff (id, t) hx).mono ?_
  rintro E w' ⟨rfl, l⟩
  have e : moveR S (id, t) = 14 := if_neg (by have : S.any (fun y => y.1 == id) = false := hn; rw [this]; decide)
  exact ⟨by rw [e], l.below h.pq.queue h.pq.base⟩

/-- What there is of the queue alone, while servers are moved. -/
structure Mov4 (X Y : Nat) (w W : World) (q : QB) (L S : List Ent) (ra : Option Addr) (len : Nat) : Prop where
  queue : Qs X W q L
  all : All4 Y W ra len S
  low : Below X w W
  off : ∀ k, q.own k → k < Y
  diff : Diff L
  base : X ≤ W.heap.size
theorem Mov4.lies {X Y : Nat} {w W W' : World} {q : QB} {L S : List Ent} {ra : Option Addr} {len : Nat} (h : Mov4 X Y w W q L S ra len) (b : Below W.heap.size W W') : Mov4 X Y w W' q L S ra len :=
  ⟨h.queue.kept (kept_lies (S := fun _ => False) b) (fun _ _ x => x), h.all.kept (kept_lies (S := fun _ => False) b) (fun _ _ x => x), h.low.trans (b.mono h.base), h.off, h.diff, Nat.le_trans h.base b.size⟩
theorem moveL_diff {L : List Ent} (h : Diff L) (x : Ent) : Diff (moveL L x) := by
  exact perm_diff (moveS_perm L x) (moveS_diff h x)
theorem Mov4.move {X Y : Nat} {w W : World} {q : QB} {L S : List Ent} {ra : Option Addr} {len : Nat} (h : Mov4 X Y w W q L S ra len) (id t : Int) (hx : Is64 id ∧ Is64 t) :
    Calls Try.prog 31 #[.pointer (some ⟨q.qb, 0, none⟩), .agg #[.int .i64 t, .int .i64 id]] W fun E w' => E = .returned (.int .i64 (moveR L (id, t))) ∧ Mov4 X Y w w' q (moveL L (id, t)) S ra len ∧ Kept q.turns W w' := by
  refine (qmove_any h.queue h.diff (id, t) hx).mono ?_
  rintro E w' ⟨rfl, l⟩
  exact ⟨rfl, ⟨l.queue, h.all.kept l.kept (fun g hg hs => by have := h.off g (.inl hs); omega), h.low.trans (l.below h.queue h.base), h.off, moveL_diff h.diff _, Nat.le_trans h.base l.kept.size⟩, l.kept⟩
/-- There and back. -/
theorem move_back {S : List Ent} (hd : Diff S) {id t : Int} (hm : (id, t) ∈ S) (ht : timeE t = 0) (u : Int) : moveR (moveL S (id, u)) (id, t) = 0 ∧ (moveL (moveL S (id, u)) (id, t)).Perm S := by
  have hb : ((id, t) :: S.filter (fun y => y.1 != id)).Perm S := ((erase_filter hd hm).symm.cons _).trans (List.perm_cons_erase hm).symm
  have hs : S.any (fun y => y.1 == id) = true := List.any_eq_true.2 ⟨_, hm, by simp⟩
  by_cases h : moveR S (id, u) = 0
  · have e : moveL S (id, u) = (id, u) :: S.filter (fun y => y.1 != id) := if_pos h
    rw [e]
    have e0 : moveR ((id, u) :: S.filter (fun y => y.1 != id)) (id, t) = 0 := by
      unfold moveR
      rw [if_pos (by simp)]
      exact ht
    refine ⟨e0, ?_⟩
    unfold moveL
    rw [if_pos e0]
    have : ((id, u) :: S.filter (fun y => y.1 != id)).filter (fun y => y.1 != id) = S.filter (fun y => y.1 != id) := by
      rw [List.filter_cons_of_neg (by simp), List.filter_filter]
      simp
    show ((id, t) :: ((id, u) :: S.filter (fun y => y.1 != id)).filter (fun y => y.1 != id)).Perm S
    rw [this]
    exact hb
  · have e : moveL S (id, u) = S := if_neg h
    rw [e]
    have e0 : moveR S (id, t) = 0 := by
      unfold moveR
      rw [if_pos hs]
      exact ht
    refine ⟨e0, ?_⟩
    unfold moveL
    rw [if_pos e0]
    exact hb
theorem Mov4.least {X Y : Nat} {w W : World} {q : QB} {L S : List Ent} {ra : Option Addr} {len : Nat} (h : Mov4 X Y w W q L S ra len) (hp : S.Perm L) (hs : Sorted S) (hl : S.length < 1099511627776) :
    Calls Try.prog 24 #[.pointer (some ⟨q.qb, 0, none⟩), .int .i64 len] W fun E w' => ∃ a cap, E = .returned (.slice a len cap) ∧ All4 W.heap.size w' a len S ∧ len ≤ cap ∧ Below W.heap.size W w' := by
  have hlen := h.all.row
  refine (qleast_any h.queue hp hs (perm_diff hp.symm h.diff) hl (len : Int)).mono ?_
  rintro E w' ⟨a, cap, rfl, hr, hk⟩
  rw [Int.toNat_natCast, ← hlen, Nat.min_self, hlen, List.take_length, ← hlen] at hr
  obtain ⟨x1, x2⟩ := all4_own hr h.all.good
  refine ⟨a, cap, ?_, x1, x2, hk.below (Nat.le_refl _) (fun _ x => x.elim)⟩
  rw [Int.toNat_natCast, ← hlen, Nat.min_self]
theorem Mov4.len {X Y : Nat} {w W : World} {q : QB} {L S : List Ent} {ra : Option Addr} {len : Nat} (h : Mov4 X Y w W q L S ra len) (hp : S.Perm L) :
    Calls Try.prog 27 #[.pointer (some ⟨q.qb, 0, none⟩)] W fun E w' => E = .returned (.int .i64 len) ∧ W = w' := by
  rw [h.all.row, hp.length_eq]
  exact qlen_any h.queue
/-- Two rows of the same keys. -/
theorem keys4_same {W : World} {Y Z : Nat} {a b : Option Addr} {len : Nat} {S : List Ent} (ha : All4 Y W a len S) (hb : All4 Z W b len S) (hl : len < 1099511627776) (ca cb : Nat) :
    Calls Try.prog 23 #[.slice a len ca, .slice b len cb] W fun E w' => E = .returned (.bool true) ∧ Below W.heap.size W w' := by
  have hr := ha.row
  subst hr
  have := keys_any W a b S S ca cb ha.keys hb.keys hl hl
  rw [decide_eq_true rfl] at this
  exact this.mono fun _ _ ⟨e, g⟩ => ⟨e, g.below⟩
/-- A row's beginning. -/
theorem All4.head {Y : Nat} {W : World} {a : Option Addr} {len : Nat} {S : List Ent} (h : All4 Y W a len S) {k : Nat} (hk : k ≤ len) : All4 Y W a k (S.take k) :=
  ⟨by rw [List.length_take, ← h.row, Nat.min_eq_left hk], fun i hi => by
    obtain ⟨g, e, h1, h2, c1, c2⟩ := h.cell i (by omega)
    have eg : (S.take k).getD i (0, 0) = S.getD i (0, 0) := by rw [List.getD_eq_getElem?_getD, List.getD_eq_getElem?_getD, List.getElem?_take, if_pos hi]
    rw [eg]
    exact ⟨g, e, h1, h2, c1, c2⟩, fun x hx => h.good x (List.mem_of_mem_take hx)⟩
theorem take_head {S : List Ent} {k len : Nat} (h : len = S.length) : (S.take (k + 1)).take (min k len) = S.take k := by
  by_cases hk : k ≤ len
  · have e : min k len = k := Nat.min_eq_left hk
    rw [e, List.take_take, Nat.min_eq_left (Nat.le_succ k)]
  · have e : min k len = len := Nat.min_eq_right (by omega)
    have e2 : min len (k + 1) = len := Nat.min_eq_left (by omega)
    rw [e, List.take_take, e2, h, List.take_length, List.take_of_length_le (by omega)]
end Go.Proofs.Ytcipilggddpnpaa
