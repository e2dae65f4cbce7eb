/-
  The laws of queues: what they share.
-/
import Derived.Test.YtcipilggddpnpaaR4f
import Derived.Test.YtcipilggddpnpaaQi
import Derived.Deep.LoopGhost
import Derived.Deep.Cut
namespace Go.Proofs.Ytcipilggddpnpaa
open Go.RowKit Go.Shelf Go.Maps
set_option linter.unusedVariables false
set_option linter.unusedSimpArgs false

/-- Behind i calls of both. -/
def At4 (X : Nat) (w W : World) (qb rf : Nat) (i : Nat) : Prop := ∃ q S, Pq X W q rf S ∧ q.qb = qb ∧ S.length ≤ 20 * i ∧ Below X w W
theorem At4.does {X : Nat} {w W : World} {qb rf i : Nat} (h : At4 X w W qb rf i) (hX : X ≤ w.heap.size) (hi : i < 1000) (k t id : Int) (hx : Is64 id ∧ Is64 t) (l : List Ent) (a : Option Addr) (cap : Nat) (hk : KeysIn X W a l) (h20 : l.length ≤ 20) (hcap : l.length ≤ cap) :
    Calls Try.prog 19 #[.pointer (some ⟨qb, 0, none⟩), .pointer (some ⟨rf, 0, none⟩), .agg #[.int .i64 k, .int .i64 t, .int .i64 id, .slice a l.length cap]] W fun E w' => E = .returned (.bool true) ∧ At4 X w w' qb rf (i + 1) := by
  obtain ⟨q, S, p, rfl, hS, hb⟩ := h
  refine (does4_any p (by omega) k t id hx a cap hk h20 hcap).mono ?_
  rintro E w' ⟨rfl, q', S', p', hq, hS', hb'⟩
  exact ⟨rfl, q', S', p', hq, by omega, hb.trans hb'⟩
/-- Two that have nothing yet. -/
theorem at4_new {X : Nat} {w w1 w2 : World} {q : QB} (h : Qs X w1 q []) (g : Grew w w1) (g2 : Grew w1 w2) (hX : X ≤ w.heap.size) : At4 X w (w2.alloc (.cells #[.slice none 0 0] 48)) q.qb w2.heap.size 0 := by
  have g3 : Grew w1 (w2.alloc (.cells #[.slice none 0 0] 48)) := g2.alloc _
  have gg := g.trans g3
  refine ⟨q, [], ⟨h.grew g3, ⟨none, 0, heap_alloc_new _ _, rfl, .inl ⟨rfl, rfl⟩⟩, List.Pairwise.nil, List.Pairwise.nil, fun x hx => (by cases hx), Nat.le_trans hX gg.size, ?_⟩, rfl, Nat.zero_le _, gg.below.mono hX⟩
  have := (g.trans g2).size
  omega
/-- A call's keys, in every later world. -/
theorem OpsAt4.keys {w W : World} {a : Option Addr} {n : Nat} {V : Nat → Int × Ent × List Ent} {A : Nat → Option Addr × Nat} {X : Nat} (h : OpsAt4 w a n V A) (b : Below w.heap.size w W) (hX : w.heap.size ≤ X) {i : Nat} (hi : i < n) : KeysIn X W (A i).1 (V i).2.2 := by
  rcases h with e | ⟨g, o, rfl, hg, hc⟩
  · omega
  obtain ⟨_, _, hk, _⟩ := hc i hi
  refine ⟨?_, fun hne y e => ?_⟩
  · rcases hk with e | ⟨g', o', e, hg', hc'⟩
    · exact .inl e
    · refine .inr ⟨g', o', e, Nat.lt_of_lt_of_le hg' b.size, fun k hk => ?_⟩
      obtain ⟨⟨k1, k2⟩, k3⟩ := hc' k hk
      exact ⟨⟨(b.cell (p := ⟨g', o' + k * 2, none⟩) hg').trans k1, (b.cell (p := ⟨g', o' + k * 2 + 1, none⟩) hg').trans k2⟩, k3⟩
  · rcases hk with e2 | ⟨g', o', e2, hg', _⟩
    · omega
    · rw [e] at e2
      cases e2
      exact Nat.lt_of_lt_of_le hg' hX
theorem first4 {S : List Ent} (hs : Sorted S) (h0 : 0 < S.length) : IsFirst S (S.getD 0 (0, 0)) := by
  refine ⟨mem_getD h0, fun y hy hne => ?_⟩
  obtain ⟨j, hj, rfl⟩ := List.getElem_of_mem hy
  have e0 : S.getD 0 (0, 0) = S[0] := by rw [List.getD_eq_getElem?_getD, List.getElem?_eq_getElem h0]; rfl
  rw [e0] at hne ⊢
  by_cases hj0 : j = 0
  · subst hj0; exact absurd rfl hne
  · exact List.pairwise_iff_getElem.1 hs 0 j h0 hj (by omega)
theorem last4 {S : List Ent} (hs : Sorted S) {p : Nat} (h0 : S.length = p + 1) : IsLast S (S.getD p (0, 0)) := by
  have hp : p < S.length := by omega
  refine ⟨mem_getD hp, fun y hy hne => ?_⟩
  obtain ⟨j, hj, rfl⟩ := List.getElem_of_mem hy
  have e0 : S.getD p (0, 0) = S[p] := by rw [List.getD_eq_getElem?_getD, List.getElem?_eq_getElem hp]; rfl
  rw [e0] at hne ⊢
  by_cases hj0 : j = p
  · subst hj0; exact absurd rfl hne
  · exact List.pairwise_iff_getElem.1 hs j p hj hp (by omega)
theorem sorted4 {S : List Ent} (hs : Sorted S) {j : Nat} (h : j + 1 < S.length) : ah (S.getD j (0, 0)) (S.getD (j + 1) (0, 0)) = true := by
  have := List.pairwise_iff_getElem.1 hs j (j + 1) (by omega) h (by omega)
  rw [List.getD_eq_getElem?_getD, List.getD_eq_getElem?_getD, List.getElem?_eq_getElem (by omega), List.getElem?_eq_getElem h]
  exact this
/-- A row of keys, in a block of its own. -/
structure All4 (B : Nat) (W : World) (ra : Option Addr) (len : Nat) (S : List Ent) : Prop where
  row : len = S.length
  cell : ∀ i, i < len → ∃ g, ra = some ⟨g, 0, none⟩ ∧ B ≤ g ∧ g < W.heap.size ∧ W.cell? ⟨g, i * 2, none⟩ = some (.int .i64 (S.getD i (0, 0)).2) ∧ W.cell? ⟨g, i * 2 + 1, none⟩ = some (.int .i64 (S.getD i (0, 0)).1)
  good : ∀ x ∈ S, Is64 x.1 ∧ Is64 x.2
theorem all4_own {w : World} {B : Nat} {a : Option Addr} {cap n : Nat} {T : List Ent} (h : w.ownsRow B 37 2 (.slice a n cap) n (flatR T)) (hT : ∀ x ∈ T, Is64 x.1 ∧ Is64 x.2) : All4 B w a n T ∧ n ≤ cap := by
  have hn : n = T.length := by have := h.1; rw [len_flatR] at this; omega
  have hk := own_keys h hT
  refine ⟨⟨hn, fun i hi => ?_, hT⟩, hk.2.2.1⟩
  rcases hk.1 with e | ⟨g, o, rfl, hg, hc⟩
  · omega
  have ho : o = 0 := by
    rcases h.2 with ⟨e, _⟩ | ⟨g', c, cur, e, _⟩
    · cases e
    · cases e; rfl
  subst ho
  obtain ⟨⟨k1, k2⟩, _⟩ := hc i (by omega)
  rw [Nat.zero_add] at k1 k2
  exact ⟨g, rfl, hk.2.2.2 _ rfl, hg, k1, k2⟩
theorem All4.kept {B : Nat} {W W' : World} {ra : Option Addr} {len : Nat} {S : List Ent} {T : Nat → Prop} (h : All4 B W ra len S) (k : Kept T W W') (hT : ∀ g, B ≤ g → ¬ T g) : All4 B W' ra len S :=
  ⟨h.row, fun i hi => by
    obtain ⟨g, e, hb, hg, c1, c2⟩ := h.cell i hi
    exact ⟨g, e, hb, Nat.lt_of_lt_of_le hg k.size, (k.cell (p := ⟨g, i * 2, none⟩) hg (hT g hb)).trans c1, (k.cell (p := ⟨g, i * 2 + 1, none⟩) hg (hT g hb)).trans c2⟩, h.good⟩
theorem All4.keys {B : Nat} {W : World} {ra : Option Addr} {len : Nat} {S : List Ent} (h : All4 B W ra len S) : KeysAt W ra S := by
  by_cases h0 : S.length = 0
  · exact .inl h0
  obtain ⟨g, e, hb, hg, _⟩ := h.cell 0 (by rw [h.row]; omega)
  refine .inr ⟨g, 0, e, hg, fun i hi => ?_⟩
  obtain ⟨g', e', _, _, c1, c2⟩ := h.cell i (by rw [h.row]; exact hi)
  rw [e] at e'
  cases e'
  rw [Nat.zero_add]
  exact ⟨⟨c1, c2⟩, h.good _ (mem_getD hi)⟩
end Go.Proofs.Ytcipilggddpnpaa
