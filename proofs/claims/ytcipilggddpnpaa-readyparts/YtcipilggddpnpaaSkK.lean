/-
  slices.Clone at entries; the heap's order as the sort's.
-/
import Derived.Test.YtcipilggddpnpaaSkJ
namespace Go.Proofs.Ytcipilggddpnpaa.K
open Go.RowKit Go.Sort Go.Shelf Go.Maps
set_option linter.unusedVariables false
set_option linter.unusedSimpArgs false

theorem RowAt.of_made {w : World} {B : Nat} {v : Value} {R : List Ent} (h : w.ownsRow B 110 3 v R.length (flat R)) (h0 : v ≠ .slice none 0 0) : ∃ rb cap, v = .slice (some ⟨rb, 0, none⟩) R.length cap ∧ B ≤ rb ∧ RowAt w rb cap R := by
  rcases h.2 with ⟨e, _⟩ | ⟨rb, cap, cur, rfl, hB, h1, h2, h3, h4, h5⟩
  · exact absurd e h0
  · refine ⟨rb, cap, rfl, hB, ⟨cur, h1, h4, fun i hi => ?_⟩, h2, h3⟩
    have hg := flat_get R i hi
    rw [← h5, List.getElem?_take, List.getElem?_take, List.getElem?_take, if_pos (by omega), if_pos (by omega), if_pos (by omega)] at hg
    simpa using hg

theorem RowAt.flat_cells {w : World} {rb cap : Nat} {R : List Ent} (h : RowAt w rb cap R) (j : Nat) (u : Value) (hj : (flat R)[j]? = some u) : w.cell? ⟨rb, j, none⟩ = some u := by
  have hl : j < R.length * 3 := by rw [← len_flat]; exact (List.getElem?_eq_some_iff.1 hj).1
  have hi : j / 3 < R.length := by omega
  have hg := flat_get R (j / 3) hi
  have h0 := h.cell0 hi
  have h1 := h.cell1 hi
  have h2 := h.cell2 hi
  have hc : j = j / 3 * 3 ∨ j = j / 3 * 3 + 1 ∨ j = j / 3 * 3 + 2 := by omega
  rcases hc with e | e | e
  · rw [← e, hj] at hg
    rw [← e] at h0
    rw [h0]; exact hg.1.symm
  · rw [← e, hj] at hg
    rw [← e] at h1
    rw [h1]; exact hg.2.1.symm
  · rw [← e, hj] at hg
    rw [← e] at h2
    rw [h2]; exact hg.2.2.symm

theorem flat_one (R : List Ent) : ∀ u ∈ flat R, u.oneCell' = true := by
  induction R with
  | nil => intro u h; cases h
  | cons x r ih =>
    intro u h
    simp only [flat, List.mem_cons] at h
    rcases h with rfl | rfl | rfl | h
    · rfl
    · rfl
    · rfl
    · exact ih u h

set_option maxHeartbeats 2000000 in
set_option maxRecDepth 100000 in
theorem clone_any (rb cap : Nat) (R : List Ent) (hs : R.length ≤ 1099511627776) (w : World) (h : RowAt w rb cap R) :
    Calls Try.prog 74 #[.slice (some ⟨rb, 0, none⟩) R.length cap] w fun e w' => ∃ rb' cap', e = .returned (.slice (some ⟨rb', 0, none⟩) R.length cap') ∧ w.heap.size ≤ rb' ∧ RowAt w' rb' cap' R ∧ Kept (fun _ => False) w w' := by
  have mixed : Try.prog.follows .mixedOrders = true := by kernel_rfl
  have q1 : ∀ (w : World) (a : Option Addr) (n c n' c' : Nat), (binOp .eql 104 (.slice a n c) (.slice none n' c')).run Try.prog w = .ok (.bool a.isNone) w := fun w a n c n' c' => Lib.run_eql_slice_nil w _ _ a n c n' c' Try.underlying104
  obtain ⟨i0, hi, hz0, hz1, hz2⟩ := info_parts (P := Try.prog) (e := 110) (z := .agg #[.int .i64 0, .int .i64 0, .int .i64 0]) (size := 3) (bytes := 24) (by kernel_rfl)
  have HI : Hid (Try.prog.info? 110 = some i0 ∧ i0.zero = some (.agg #[.int .i64 0, .int .i64 0, .int .i64 0]) ∧ i0.size = 3 ∧ i0.bytes = 24) := ⟨hi, hz0, hz1, hz2⟩
  have A := Lib.hid h
  clear h hi hz0 hz1 hz2
  go_enter Try.func74, Try.ntmps74
  go_wp2_with (at_builtin; refine wpList_append_own _ rfl _ _ 104 rfl w.heap.size 110 i0 (.agg #[.int .i64 0, .int .i64 0, .int .i64 0]) 3 24 Try.underlying104 HI.out.1 HI.out.2.1 HI.out.2.2.1 HI.out.2.2.2 rfl (by decide) _ _ _ rfl (World.ownsRow_made w #[] 0 (Nat.le_refl _) (Nat.zero_le _) rfl) ⟨rb, 0, none⟩ R.length cap (flat R) rfl ?qc1 ?qc2 ?qc3 ?qc4 ?qc5 ?qc6 ?_)
  case qc1 => exact len_flat R
  case qc2 =>
    intro j u hj
    rw [Addr.add_lit]
    refine Lib.cell?_alloc_some _ ?_
    simpa using A.out.flat_cells j u hj
  case qc3 => exact flat_one R
  case qc4 => unfold maxLen; omega
  case qc5 => omega
  case qc6 => simp
  intro v' w1 hown hgrow hnil
  obtain ⟨rb', cap', rfl, hB, hrow⟩ := RowAt.of_made (by simpa using hown) hnil
  go_wp2_with fail
  go_ret
  exact ⟨rb', cap', rfl, hB, hrow, ((Kept.refl _ w).alloc _).grown hgrow (by intro k hk; simp [Value.ownBlock] at hk; right; omega)⟩
end Go.Proofs.Ytcipilggddpnpaa.K
