/-
  The reference's heap: Drop.
-/
import Derived.Test.YtcipilggddpnpaaRfA
namespace Go.Proofs.Ytcipilggddpnpaa
open Go.RowKit Go.Sort Go.Shelf Go.Maps
set_option linter.unusedVariables false
set_option linter.unusedSimpArgs false

theorem findR_first {L : List Ent} {id : Int} : ∀ (n i j : Nat), rid L (i + j) = id → j < n → (∀ q, q < j → rid L (i + q) ≠ id) → findR L id n i = ((i + j : Nat) : Int)
  | 0, i, j, _, h, _ => absurd h (Nat.not_lt_zero _)
  | n + 1, i, 0, h, _, _ => by rw [findR, if_pos (by rwa [Nat.add_zero] at h)]; rfl
  | n + 1, i, j + 1, h, hj, hq => by
    rw [findR, if_neg (by have := hq 0 (by omega); rwa [Nat.add_zero] at this)]
    rw [findR_first n (i + 1) j (by rw [← h]; congr 1; omega) (by omega) (fun q hq' => by have := hq (q + 1) (by omega); rwa [show i + (q + 1) = i + 1 + q by omega] at this)]
    congr 1; omega
theorem findR_none {L : List Ent} {id : Int} : ∀ (n i : Nat), (∀ q, q < n → rid L (i + q) ≠ id) → findR L id n i = -1
  | 0, i, _ => rfl
  | n + 1, i, hq => by
    rw [findR, if_neg (by have := hq 0 (by omega); rwa [Nat.add_zero] at this)]
    exact findR_none n (i + 1) (fun q h => by have := hq (q + 1) (by omega); rwa [show i + (q + 1) = i + 1 + q by omega] at this)

/-- The numbers are all different. -/
def Diff (L : List Ent) : Prop := L.Pairwise (fun x y => x.1 ≠ y.1)
theorem Diff.ne {L : List Ent} (h : Diff L) {i j : Nat} (hi : i < L.length) (hj : j < L.length) (hij : i ≠ j) : rid L i ≠ rid L j := by
  unfold rid
  rw [List.getD_eq_getElem?_getD, List.getD_eq_getElem?_getD, List.getElem?_eq_getElem hi, List.getElem?_eq_getElem hj]
  simp only [Option.getD_some]
  have hp := List.pairwise_iff_getElem.1 h
  rcases Nat.lt_or_gt_of_ne hij with a | a
  · exact hp i j hi hj a
  · exact fun e => hp j i hj hi a e.symm
theorem Diff.find {L : List Ent} (h : Diff L) {i : Nat} (hi : i < L.length) : findR L (rid L i) L.length 0 = (i : Int) := by
  have := findR_first (L := L) (id := rid L i) L.length 0 i (by rw [Nat.zero_add]) hi (fun q hq => by rw [Nat.zero_add]; exact h.ne (by omega) hi (by omega))
  rwa [Nat.zero_add] at this
theorem findR_no {L : List Ent} {id : Int} (h : ∀ x ∈ L, x.1 ≠ id) : findR L id L.length 0 = -1 :=
  findR_none L.length 0 (fun q hq => by rw [Nat.zero_add]; exact h _ (mem_getD hq))

theorem flatR_one (R : List Ent) : ∀ u ∈ flatR R, u.oneCell' = true := by
  induction R with
  | nil => intro u h; cases h
  | cons x r ih =>
    intro u h
    simp only [flatR, List.mem_cons] at h
    rcases h with rfl | rfl | h
    · rfl
    · rfl
    · exact ih u h

theorem flatR_take : ∀ (L : List Ent) (i : Nat), flatR (L.take i) = (flatR L).take (i * 2)
  | [], i => by simp [flatR]
  | x :: r, 0 => by simp [flatR]
  | x :: r, i + 1 => by
    rw [show (i + 1) * 2 = i * 2 + 1 + 1 by omega]
    simp [flatR, flatR_take r i]
theorem flatR_drop : ∀ (L : List Ent) (i : Nat), flatR (L.drop i) = (flatR L).drop (i * 2)
  | [], i => by simp [flatR]
  | x :: r, 0 => by simp [flatR]
  | x :: r, i + 1 => by
    rw [show (i + 1) * 2 = i * 2 + 1 + 1 by omega]
    simp [flatR, flatR_drop r i]

/-- The reference's row, cell by cell. -/
def RefRow (w : World) (g : Nat) (L : List Ent) : Prop := g < w.heap.size ∧ ∀ (j : Nat) (u : Value), (flatR L)[j]? = some u → w.cell? ⟨g, j, none⟩ = some u

theorem RefIs.row {B : Nat} {w : World} {rf : Nat} {L : List Ent} (h : RefIs B w rf L) (h0 : 0 < L.length) : ∃ g cap, w.heap[rf]? = some (.cells #[.slice (some ⟨g, 0, none⟩) L.length cap] 48 (0, 0)) ∧ RefRow w g L ∧ L.length ≤ cap := by
  obtain ⟨a, cap, h1, h2⟩ := h
  have h2' := h2
  rcases h2.2 with ⟨e, hn⟩ | ⟨g, c, cur, e, _, h3, h4, h5, h6, h7⟩
  · omega
  · simp only [Value.slice.injEq] at e
    obtain ⟨rfl, _, rfl⟩ := e
    refine ⟨g, cap, h1, ⟨(Array.getElem?_eq_some_iff.1 h3).1, fun j u hj => ?_⟩, h4⟩
    have hl : j < L.length * 2 := by rw [← len_flatR]; exact (List.getElem?_eq_some_iff.1 hj).1
    have hj1 := h2'.cellAt j (by omega)
    rw [hj1, hj]
theorem RefRow.take {w : World} {g : Nat} {L : List Ent} (h : RefRow w g L) (i : Nat) : ∀ (j : Nat) (u : Value), (flatR (L.take i))[j]? = some u → w.cell? ⟨g, j, none⟩ = some u := fun j u hj => by
  rw [flatR_take, List.getElem?_take] at hj
  split at hj
  · exact h.2 j u hj
  · cases hj
theorem RefRow.drop {w : World} {g : Nat} {L : List Ent} (h : RefRow w g L) (i : Nat) : ∀ (j : Nat) (u : Value), (flatR (L.drop i))[j]? = some u → w.cell? ⟨g, i * 2 + j, none⟩ = some u := fun j u hj => by
  rw [flatR_drop, List.getElem?_drop] at hj
  exact h.2 _ u hj
theorem RefRow.kept {w w' : World} {g : Nat} {L : List Ent} (h : RefRow w g L) (e : w'.heap[g]? = w.heap[g]?) : RefRow w' g L :=
  ⟨by rw [Array.getElem?_eq_getElem h.1] at e; exact (Array.getElem?_eq_some_iff.1 e).1, fun j u hj => by rw [World.cell?_of_block e]; exact h.2 j u hj⟩

/-- Where a slice of the row from i on begins. -/
theorem from_addr {L : List Ent} (g cap i : Nat) (hc : L.length ≤ cap) : ∃ ad : Addr, (if cap = i then some (⟨g, 0, none⟩ : Addr) else some ⟨g, i * 2, none⟩) = some ad ∧ ∀ w, RefRow w g L → ∀ (j : Nat) (u : Value), (flatR (L.drop i))[j]? = some u → w.cell? (ad.add j) = some u := by
  by_cases h : cap = i
  · refine ⟨_, if_pos h, fun w hr j u hj => ?_⟩
    have := (List.getElem?_eq_some_iff.1 hj).1
    rw [len_flatR, List.length_drop] at this
    omega
  · refine ⟨_, if_neg h, fun w hr j u hj => ?_⟩
    rw [Addr.add_lit]
    exact hr.drop i j u hj

theorem own_form {w : World} {B : Nat} {e : TypeId} {size : Nat} {v : Value} {n : Nat} {xs : List Value} (h : w.ownsRow B e size v n xs) : ∃ a cap, v = .slice a n cap := by
  rcases h.2 with ⟨rfl, rfl⟩ | ⟨g, cap, cur, rfl, _⟩
  · exact ⟨_, _, rfl⟩
  · exact ⟨_, _, rfl⟩

/-- The reference's own block. -/
theorem ref_store {B : Nat} {w : World} {rf : Nat} {old v : Value} {n : Nat} {L : List Ent} (h : w.heap[rf]? = some (.cells #[old] 48 (0, 0))) (hn : n = L.length) (ho : w.ownsRow B 37 2 v n (flatR L)) : RefIs B (w.setCell ⟨rf, 0, none⟩ v) rf L := by
  subst hn
  have hrf := (Array.getElem?_eq_some_iff.1 h).1
  rcases ho.2 with ⟨e, hn⟩ | ⟨g, c, cur, e, hB, h3, h4, h5, h6, h7⟩
  · subst e
    refine ⟨none, 0, ?_, ho.1, .inl ⟨by rw [hn], hn⟩⟩
    simp [World.setCell, Array.getElem?_modify, h, hn]
  · subst e
    have hne : g ≠ rf := by
      rintro rfl
      rw [h] at h3
      simp at h3
    refine ⟨_, c, ?_, ho.1, .inr ⟨g, c, cur, rfl, hB, ?_, h4, h5, h6, h7⟩⟩
    · simp [World.setCell, Array.getElem?_modify, h]
    · rw [Below.heap_setCell _ _ _ _ (by exact hne)]; exact h3

set_option maxHeartbeats 1000000 in
theorem refDrop_none (B : Nat) (w : World) (rf : Nat) (L : List Ent) (hs : L.length ≤ 1099511627776) (h : RefIs B w rf L) (id : Int) (hf : findR L id L.length 0 = -1) :
    Calls Try.prog 49 #[.pointer (some ⟨rf, 0, none⟩), .int .i64 id] w fun e w' => e = .returned (.tuple #[.int .i64 0, .int .i64 14]) ∧ w' = w := by
  have C := Lib.hid (refAt_any B w rf L hs h id)
  rw [hf] at C
  clear h hf
  go_enter Try.func49, Try.ntmps49
  go_wp2_with (go_at_call 47; (with_reducible refine C.out.mono ?_); rintro e w' ⟨rfl, rfl⟩)
  go_ret2
  exact ⟨rfl, rfl⟩

set_option maxHeartbeats 2000000 in
theorem refDrop_there (B : Nat) (w : World) (rf : Nat) (L : List Ent) (hs : L.length ≤ 1099511627776) (hB : B ≤ w.heap.size) (h : RefIs B w rf L) (id : Int) (i : Nat) (hi : i < L.length) (hf : findR L id L.length 0 = (i : Int)) :
    Calls Try.prog 49 #[.pointer (some ⟨rf, 0, none⟩), .int .i64 id] w fun e w' => e = .returned (.tuple #[.int .i64 (rky L i), .int .i64 0]) ∧ RefIs B w' rf (L.eraseIdx i) ∧ Kept (fun k => k = rf) w w' := by
  have C := Lib.hid (refAt_any B w rf L hs h id)
  rw [hf] at C
  obtain ⟨g, cap, hb, hrow, hcap⟩ := h.row (by omega)
  obtain ⟨i0, hi0, hz0, hz1, hz2⟩ := info_parts (P := Try.prog) (e := 37) (z := .agg #[.int .i64 0, .int .i64 0]) (size := 2) (bytes := 16) (by kernel_rfl)
  have HI : Hid (Try.prog.info? 37 = some i0 ∧ i0.zero = some (.agg #[.int .i64 0, .int .i64 0]) ∧ i0.size = 2 ∧ i0.bytes = 16) := ⟨hi0, hz0, hz1, hz2⟩
  have hc0 : w.cell? ⟨rf, 0, none⟩ = some (.slice (some ⟨g, 0, none⟩) L.length cap) := by simp [World.cell?, hb]
  have hrf : rf < w.heap.size := (Array.getElem?_eq_some_iff.1 hb).1
  have hk : w.cell? ⟨g, i * 2, none⟩ = some (.int .i64 (rky L i)) := hrow.2 _ _ (flatR_get L i hi).1
  have L1 : ∀ w1, w.grownBy w1 none → w1.cell? ⟨rf, 0, none⟩ = some (.slice (some ⟨g, 0, none⟩) L.length cap) ∧ RefRow w1 g L ∧ w1.heap[rf]? = w.heap[rf]? := fun w1 hg => by
    have e1 := hg.block rf hrf (fun e => by cases e)
    exact ⟨by rw [World.cell?_of_block e1]; exact hc0, hrow.kept (hg.block g hrow.1 (fun e => by cases e)), e1⟩
  have HR := Lib.hid hrow
  have HL := Lib.hid L1
  have HB := Lib.hid hb
  obtain ⟨n, hn⟩ : ∃ n, L.length = n := ⟨_, rfl⟩
  rw [hn] at hc0 hi hcap hs
  have HN := Lib.hid hn
  have hi' : (i : Int) < (n : Int) := by omega
  have hcap' : (n : Int) ≤ (cap : Int) := by omega
  have hi2 : (i : Int) ≤ (cap : Int) := by omega
  have q1 : IntKind.i64.wrap ((i : Int) + 1) = (i : Int) + 1 := by rw [IntKind.wrap_i64]; omega
  have q2 : (i : Int) + 1 ≤ (n : Int) := by omega
  obtain ⟨ad, had, hnews⟩ := from_addr (L := L) g cap (i + 1) (by rw [hn]; omega)
  have HA := Lib.hid hnews
  clear h hf L1 hrow hb hi0 hz0 hz1 hz2 hn hnews
  generalize rky L i = y at *
  go_enter Try.func49, Try.ntmps49
  go_wp2_with (first | (go_at_call 47; (with_reducible refine C.out.mono ?_); rintro e w' ⟨rfl, rfl⟩) | (at_builtin; refine wpList_append_own _ rfl _ _ 46 rfl w'.heap.size 37 i0 (.agg #[.int .i64 0, .int .i64 0]) 2 16 Try.underlying46 HI.out.1 HI.out.2.1 HI.out.2.2.1 HI.out.2.2.2 rfl (by decide) _ 0 [] rfl ⟨rfl, .inl ⟨rfl, rfl⟩⟩ ⟨g, 0, none⟩ i cap (flatR (L.take i)) ?qc0 ?qc1 ?qc2 ?qc3 ?qc4 ?qc5 ?qc6 ?_))
  case qc0 => rfl
  case qc1 => rw [len_flatR, List.length_take, HN.out]; omega
  case qc2 =>
    intro j u hj
    rw [Addr.add_lit]
    simpa using HR.out.take i j u hj
  case qc3 => exact flatR_one _
  case qc4 => unfold maxLen; omega
  case qc5 => omega
  case qc6 => exact Nat.le_refl _
  intro v1 w1 hown1 hgrow1 hnil1
  have hg1 : w'.grownBy w1 none := hgrow1
  have hc1 := (HL.out w1 hg1).1
  rw [HN.out] at hc1
  have HR1 := Lib.hid (HL.out w1 hg1).2.1
  have hb1 : w1.heap[rf]? = some (.cells #[.slice (some ⟨g, 0, none⟩) L.length cap] 48 (0, 0)) := (HL.out w1 hg1).2.2.trans HB.out
  have hz1 := hg1.size
  have HE : Hid (∀ (v2 : Value) (w2 : World), w2.ownsRow w'.heap.size 37 2 v2 (i + (n - (i + 1))) (flatR (L.take i) ++ flatR (L.drop (i + 1))) → w1.grownBy w2 v1.ownBlock →
      (w2.cell? ⟨rf, 0, none⟩ = some (.slice (some ⟨g, 0, none⟩) n cap) ∧ w2.frozen? ⟨rf, 0, none⟩ = false) ∧ RefIs B (w2.setCell ⟨rf, 0, none⟩ v2) rf (L.eraseIdx i) ∧ Kept (fun k => k = rf) w' (w2.setCell ⟨rf, 0, none⟩ v2)) := fun v2 w2 ho hg2 => by
    have hv1 : ∀ k, v1.ownBlock = some k → w'.heap.size ≤ k := fun k e => by
      rcases hown1.2 with ⟨rfl, _⟩ | ⟨g', c', cur, rfl, hg', _⟩
      · cases e
      · cases e; exact hg'
    have hb2 : w2.heap[rf]? = some (.cells #[.slice (some ⟨g, 0, none⟩) L.length cap] 48 (0, 0)) := by
      rw [hg2.block rf (by omega) (fun e => by have := hv1 rf e.symm; omega)]; exact hb1
    have k2 : Kept (fun k => k = rf) w' w2 := ((Kept.refl _ w').grown hg1 (fun k e => by cases e)).grown hg2 (fun k e => .inr (hv1 k e))
    refine ⟨⟨by simp [World.cell?, hb2, HN.out], by simp [World.frozen?, hb2]⟩, ?_, k2.setCell (.inl rfl) _⟩
    rw [List.eraseIdx_eq_take_drop_succ]
    rw [← flatR_append] at ho
    have ho2 : w2.ownsRow B 37 2 v2 (i + (n - (i + 1))) (flatR (L.take i ++ L.drop (i + 1))) := ⟨ho.1, by
      rcases ho.2 with x | ⟨g', c', cur, e, hg', r⟩
      · exact .inl x
      · exact .inr ⟨g', c', cur, e, by omega, r⟩⟩
    exact ref_store hb2 (by rw [List.length_append, List.length_take, List.length_drop, HN.out]; omega) ho2
  have HO := Lib.hid hown1
  clear hown1 hg1 hgrow1 hnil1 hb1 HL HB HR
  go_wp2_with (at_builtin; refine wpList_append_own _ rfl _ _ 46 rfl w'.heap.size 37 i0 (.agg #[.int .i64 0, .int .i64 0]) 2 16 Try.underlying46 HI.out.1 HI.out.2.1 HI.out.2.2.1 HI.out.2.2.2 rfl (by decide) _ _ _ rfl HO.out ad (n - (i + 1)) _ (flatR (L.drop (i + 1))) rfl (by rw [len_flatR, List.length_drop, HN.out]) (HA.out _ HR1.out) (flatR_one _) (by unfold maxLen; omega) (by omega) hz1 ?_; intro v2 w2 ho2 hg2 _; obtain ⟨a2, cap2, rfl⟩ := own_form ho2; have H2 := Lib.hid (HE.out _ w2 ho2 hg2).2; obtain ⟨c2, f2⟩ := (HE.out _ w2 ho2 hg2).1; clear ho2 hg2)
  go_ret2
  exact ⟨rfl, H2.out⟩
end Go.Proofs.Ytcipilggddpnpaa
