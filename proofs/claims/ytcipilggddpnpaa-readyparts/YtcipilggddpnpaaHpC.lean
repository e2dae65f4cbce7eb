/-
  Heap[int]: swap.
-/
import Derived.Test.YtcipilggddpnpaaHpB
import Derived.BigRegion
import Derived.StillTailTactics
namespace Go.Proofs.Ytcipilggddpnpaa
open Go.RowKit Go.Sort Go.Shelf Go.Maps
set_option linter.unusedVariables false
set_option linter.unusedSimpArgs false

theorem intKeys : Keyed Try.prog 3 := int_keyed Try.underlying3
abbrev MapIs (w : World) (mb n : Nat) (D : DataW Unit) : Prop := w.ownsMap Try.prog 3 (plainElem (H := Unit) Try.prog 3) mb n D
theorem zeroInt (w : World) : (zeroValue 3).run Try.prog w = .ok (.int .i64 0) w := by kernel_rfl

set_option maxHeartbeats 4000000 in
set_option maxRecDepth 100000 in
/-- swap, behind the exchange of the two entries: the two places are laid. -/
theorem swap_walk (hb rb cap n : Nat) (mb : Nat) (a b : Nat) (ia ka ib kb : Int) (ha : a < n) (hbl : b < n) (hn : n ≤ maxLen) (hne : a ≠ b) (w : World) (N : Nat) (D : DataW Unit) (hN : N + 2 ≤ maxLen) (hM : MapIs w mb N D) (hmr : mb ≠ rb) (wa : Is64 ia) (wb : Is64 ib)
    (c1 : w.cell? ⟨hb, 1, none⟩ = some (.slice (some ⟨rb, 0, none⟩) n cap)) (c2 : w.cell? ⟨hb, 2, none⟩ = some (.map (some mb)))
    (a0 : w.cell? ⟨rb, a * 2, none⟩ = some (.int .i64 ia)) (a1 : w.cell? ⟨rb, a * 2 + 1, none⟩ = some (.int .i64 ka)) (b0 : w.cell? ⟨rb, b * 2, none⟩ = some (.int .i64 ib)) (b1 : w.cell? ⟨rb, b * 2 + 1, none⟩ = some (.int .i64 kb))
    (fz : ∀ o, w.frozen? ⟨rb, o, none⟩ = false) (hbr : hb ≠ rb) :
    Calls Try.prog 35 #[.pointer (some ⟨hb, 0, none⟩), .int .i64 a, .int .i64 b] w fun e w' => e = .returned (.tuple #[]) ∧
      MapIs w' mb (N + 2) ((D.put (.int .i64 ib) (.lit (.int .i64 a))).put (.int .i64 ia) (.lit (.int .i64 b))) ∧
      ((((w.setCell ⟨rb, a * 2, none⟩ (.int .i64 ib)).setCell ⟨rb, a * 2 + 1, none⟩ (.int .i64 kb)).setCell ⟨rb, b * 2, none⟩ (.int .i64 ia)).setCell ⟨rb, b * 2 + 1, none⟩ (.int .i64 ka)).grownBy w' (some mb) := by
  have ha' : (a : Int) < (n : Int) := by omega
  have hb' : (b : Int) < (n : Int) := by omega
  have n1 : ¬ a = b := hne
  have n2 : ¬ b = a := fun e => hne e.symm
  have n3 : ¬ a * 2 + 1 = b * 2 := by omega
  have n4 : ¬ b * 2 = a * 2 + 1 := by omega
  have n5 : ¬ a * 2 = b * 2 + 1 := by omega
  have n6 : ¬ b * 2 + 1 = a * 2 := by omega
  have m1 : ¬ hb = rb := hbr
  have m2 : ¬ rb = hb := fun e => hbr e.symm
  have hmb : mb ≠ hb := by
    rintro rfl
    obtain ⟨es, cl, h, _⟩ := hM
    simp [World.cell?, h] at c1
  have hkA : keyOf Try.prog 3 (.int .i64 ia) = some (.int .i64 ia) := keyOf_int_mk Try.underlying3 (WalkArith.wf_i64 wa)
  have hkB : keyOf Try.prog 3 (.int .i64 ib) = some (.int .i64 ib) := keyOf_int_mk Try.underlying3 (WalkArith.wf_i64 wb)
  have hvA : plainElem (H := Unit) Try.prog 3 (.int .i64 a) = some (.lit (.int .i64 a), []) := plainElem_int Try.underlying3 (WalkArith.wf_i64 (by simp only [maxLen] at hn; omega))
  have hvB : plainElem (H := Unit) Try.prog 3 (.int .i64 b) = some (.lit (.int .i64 b), []) := plainElem_int Try.underlying3 (WalkArith.wf_i64 (by simp only [maxLen] at hn; omega))
  obtain ⟨W, hW⟩ : ∃ W, (((w.setCell ⟨rb, a * 2, none⟩ (.int .i64 ib)).setCell ⟨rb, a * 2 + 1, none⟩ (.int .i64 kb)).setCell ⟨rb, b * 2, none⟩ (.int .i64 ia)).setCell ⟨rb, b * 2 + 1, none⟩ (.int .i64 ka) = W := ⟨_, rfl⟩
  have hM1 : MapIs W mb N D := by
    rw [← hW]
    exact (((hM.setCell (by exact hmr) _).setCell (by exact hmr) _).setCell (by exact hmr) _).setCell (by exact hmr) _
  have d1 : W.cell? ⟨hb, 1, none⟩ = some (.slice (some ⟨rb, 0, none⟩) n cap) := by rw [← hW]; simp [go_sem, m1, c1]
  have d2 : W.cell? ⟨hb, 2, none⟩ = some (.map (some mb)) := by rw [← hW]; simp [go_sem, m1, c2]
  have d3 : W.cell? ⟨rb, a * 2, none⟩ = some (.int .i64 ib) := by rw [← hW]; simp [go_sem, n1, n3, n5, a0]
  have d4 : W.cell? ⟨rb, b * 2, none⟩ = some (.int .i64 ia) := by rw [← hW]; simp [go_sem, n2, n4, b0]
  have HW : Hid _ := hW
  rw [hW]
  have HM1 := Lib.hid hM1
  clear hM hne hbr hW hM1
  go_enter Try.func35, Try.ntmps35
  go_wp2_with fail
  go_region
  rw [HW.out]
  clear c1 c2 a0 a1 b0 b1 fz
  obtain ⟨V, hV⟩ : ∃ V, W.drew = V := ⟨_, rfl⟩
  have d1 : V.cell? ⟨hb, 1, none⟩ = some (.slice (some ⟨rb, 0, none⟩) n cap) := by rw [← hV]; exact d1
  have d2 : V.cell? ⟨hb, 2, none⟩ = some (.map (some mb)) := by rw [← hV]; exact d2
  have d3 : V.cell? ⟨rb, a * 2, none⟩ = some (.int .i64 ib) := by rw [← hV]; exact d3
  have d4 : V.cell? ⟨rb, b * 2, none⟩ = some (.int .i64 ia) := by rw [← hV]; exact d4
  have HM1 : Hid (MapIs V mb N D) := by rw [← hV]; exact HM1.out
  have HV : Hid (W.grownBy V (some mb)) := by rw [← hV]; exact ⟨rfl, rfl, rfl, Nat.le_refl _, fun _ _ _ => rfl⟩
  rw [hV]
  clear hV
  go_wp2_with fail
  go_still_tail 13, (by kernel_rfl)
  change wpList _ _ _ _ _ V.drew
  at_mapUpdate
  refine wpList_mapUpdate_own _ rfl _ _ _ 66 rfl 3 3 intKeys Try.underlying66 _ mb N D rfl HM1.out (by omega) _ _ _ rfl rfl hkB _ [] hvA ?_
  intro w1 hown1 hg1
  have e1 : w1.cell? ⟨hb, 1, none⟩ = some (.slice (some ⟨rb, 0, none⟩) n cap) := hg1.cell (a := ⟨hb, 1, none⟩) d1 (by simpa using fun e => hmb e.symm)
  have e2 : w1.cell? ⟨hb, 2, none⟩ = some (.map (some mb)) := hg1.cell (a := ⟨hb, 2, none⟩) d2 (by simpa using fun e => hmb e.symm)
  have e4 : w1.cell? ⟨rb, b * 2, none⟩ = some (.int .i64 ia) := hg1.cell (a := ⟨rb, b * 2, none⟩) d4 (by simpa using fun e => hmr e.symm)
  have HO1 := Lib.hid hown1
  have HG1 : Hid (V.grownBy w1 (some mb)) := (show V.grownBy w1 (some mb) from ⟨hg1.os, hg1.tape, hg1.output, hg1.size, hg1.block⟩)
  clear hown1 hg1 d1 d2 d3 d4
  go_wp2_with fail
  go_still_tail 13, (by kernel_rfl)
  change wpList _ _ _ _ _ w1.drew
  at_mapUpdate
  refine wpList_mapUpdate_own _ rfl _ _ _ 66 rfl 3 3 intKeys Try.underlying66 _ mb (N + 1) _ rfl HO1.out (by omega) _ _ _ rfl rfl hkA _ [] hvB ?_
  intro w2 hown2 hg2
  go_wp2
  go_end0
  exact ⟨rfl, hown2, (HV.out.trans HG1.out).trans ⟨hg2.os, hg2.tape, hg2.output, hg2.size, hg2.block⟩⟩
set_option maxHeartbeats 4000000 in
set_option maxRecDepth 100000 in
/-- swap of an entry with itself. -/
theorem swap_self (hb rb cap n : Nat) (mb : Nat) (a : Nat) (ia ka : Int) (ha : a < n) (hn : n ≤ maxLen) (w : World) (N : Nat) (D : DataW Unit) (hN : N + 2 ≤ maxLen) (hM : MapIs w mb N D) (hmr : mb ≠ rb) (wa : Is64 ia)
    (c1 : w.cell? ⟨hb, 1, none⟩ = some (.slice (some ⟨rb, 0, none⟩) n cap)) (c2 : w.cell? ⟨hb, 2, none⟩ = some (.map (some mb)))
    (a0 : w.cell? ⟨rb, a * 2, none⟩ = some (.int .i64 ia)) (a1 : w.cell? ⟨rb, a * 2 + 1, none⟩ = some (.int .i64 ka))
    (fz : ∀ o, w.frozen? ⟨rb, o, none⟩ = false) (hbr : hb ≠ rb) :
    Calls Try.prog 35 #[.pointer (some ⟨hb, 0, none⟩), .int .i64 a, .int .i64 a] w fun e w' => e = .returned (.tuple #[]) ∧
      MapIs w' mb (N + 2) ((D.put (.int .i64 ia) (.lit (.int .i64 a))).put (.int .i64 ia) (.lit (.int .i64 a))) ∧
      ((((w.setCell ⟨rb, a * 2, none⟩ (.int .i64 ia)).setCell ⟨rb, a * 2 + 1, none⟩ (.int .i64 ka)).setCell ⟨rb, a * 2, none⟩ (.int .i64 ia)).setCell ⟨rb, a * 2 + 1, none⟩ (.int .i64 ka)).grownBy w' (some mb) := by
  have ha' : (a : Int) < (n : Int) := by omega
  have m1 : ¬ hb = rb := hbr
  have m2 : ¬ rb = hb := fun e => hbr e.symm
  have hmb : mb ≠ hb := by
    rintro rfl
    obtain ⟨es, cl, h, _⟩ := hM
    simp [World.cell?, h] at c1
  have hkA : keyOf Try.prog 3 (.int .i64 ia) = some (.int .i64 ia) := keyOf_int_mk Try.underlying3 (WalkArith.wf_i64 wa)
  have hvA : plainElem (H := Unit) Try.prog 3 (.int .i64 a) = some (.lit (.int .i64 a), []) := plainElem_int Try.underlying3 (WalkArith.wf_i64 (by simp only [maxLen] at hn; omega))
  obtain ⟨W, hW⟩ : ∃ W, (((w.setCell ⟨rb, a * 2, none⟩ (.int .i64 ia)).setCell ⟨rb, a * 2 + 1, none⟩ (.int .i64 ka)).setCell ⟨rb, a * 2, none⟩ (.int .i64 ia)).setCell ⟨rb, a * 2 + 1, none⟩ (.int .i64 ka) = W := ⟨_, rfl⟩
  have hM1 : MapIs W mb N D := by
    rw [← hW]
    exact (((hM.setCell (by exact hmr) _).setCell (by exact hmr) _).setCell (by exact hmr) _).setCell (by exact hmr) _
  have d1 : W.cell? ⟨hb, 1, none⟩ = some (.slice (some ⟨rb, 0, none⟩) n cap) := by rw [← hW]; simp [go_sem, m1, c1]
  have d2 : W.cell? ⟨hb, 2, none⟩ = some (.map (some mb)) := by rw [← hW]; simp [go_sem, m1, c2]
  have d3 : W.cell? ⟨rb, a * 2, none⟩ = some (.int .i64 ia) := by rw [← hW]; simp [go_sem, a0]
  have HW : Hid _ := hW
  rw [hW]
  have HM1 := Lib.hid hM1
  clear hM hbr hW hM1
  go_enter Try.func35, Try.ntmps35
  go_wp2_with fail
  go_region
  rw [HW.out]
  clear c1 c2 a0 a1 fz
  obtain ⟨V, hV⟩ : ∃ V, W.drew = V := ⟨_, rfl⟩
  have d1 : V.cell? ⟨hb, 1, none⟩ = some (.slice (some ⟨rb, 0, none⟩) n cap) := by rw [← hV]; exact d1
  have d2 : V.cell? ⟨hb, 2, none⟩ = some (.map (some mb)) := by rw [← hV]; exact d2
  have d3 : V.cell? ⟨rb, a * 2, none⟩ = some (.int .i64 ia) := by rw [← hV]; exact d3
  have HM1 : Hid (MapIs V mb N D) := by rw [← hV]; exact HM1.out
  have HV : Hid (W.grownBy V (some mb)) := by rw [← hV]; exact ⟨rfl, rfl, rfl, Nat.le_refl _, fun _ _ _ => rfl⟩
  rw [hV]
  clear hV
  go_wp2_with fail
  go_still_tail 13, (by kernel_rfl)
  change wpList _ _ _ _ _ V.drew
  at_mapUpdate
  refine wpList_mapUpdate_own _ rfl _ _ _ 66 rfl 3 3 intKeys Try.underlying66 _ mb N D rfl HM1.out (by omega) _ _ _ rfl rfl hkA _ [] hvA ?_
  intro w1 hown1 hg1
  have e1 : w1.cell? ⟨hb, 1, none⟩ = some (.slice (some ⟨rb, 0, none⟩) n cap) := hg1.cell (a := ⟨hb, 1, none⟩) d1 (by simpa using fun e => hmb e.symm)
  have e2 : w1.cell? ⟨hb, 2, none⟩ = some (.map (some mb)) := hg1.cell (a := ⟨hb, 2, none⟩) d2 (by simpa using fun e => hmb e.symm)
  have e4 : w1.cell? ⟨rb, a * 2, none⟩ = some (.int .i64 ia) := hg1.cell (a := ⟨rb, a * 2, none⟩) d3 (by simpa using fun e => hmr e.symm)
  have HO1 := Lib.hid hown1
  have HG1 : Hid (V.grownBy w1 (some mb)) := (show V.grownBy w1 (some mb) from ⟨hg1.os, hg1.tape, hg1.output, hg1.size, hg1.block⟩)
  clear hown1 hg1 d1 d2 d3
  go_wp2_with fail
  go_still_tail 13, (by kernel_rfl)
  change wpList _ _ _ _ _ w1.drew
  at_mapUpdate
  refine wpList_mapUpdate_own _ rfl _ _ _ 66 rfl 3 3 intKeys Try.underlying66 _ mb (N + 1) _ rfl HO1.out (by omega) _ _ _ rfl rfl hkA _ [] hvA ?_
  intro w2 hown2 hg2
  go_wp2
  go_end0
  exact ⟨rfl, hown2, (HV.out.trans HG1.out).trans ⟨hg2.os, hg2.tape, hg2.output, hg2.size, hg2.block⟩⟩
end Go.Proofs.Ytcipilggddpnpaa
