/-
  Heap[api.Key]: slices.Delete of the last entry; find, Peek, Len.
-/
import Derived.Test.YtcipilggddpnpaaKhF
namespace Go.Proofs.Ytcipilggddpnpaa.K
open Go.RowKit Go.Sort Go.Shelf Go.Maps
set_option linter.unusedVariables false
set_option linter.unusedSimpArgs false

set_option maxHeartbeats 1000000 in
set_option maxRecDepth 20000 in
theorem delete_last (rb cap m : Nat) (hm : m + 1 ≤ cap) (hc : cap ≤ maxLen) (w : World) (v0 v1 v2 : Value) (c0 : w.cell? ⟨rb, m * 3, none⟩ = some v0) (c1 : w.cell? ⟨rb, m * 3 + 1, none⟩ = some v1) (c2 : w.cell? ⟨rb, m * 3 + 2, none⟩ = some v2) (fz : ∀ o, w.frozen? ⟨rb, o, none⟩ = false) :
    Calls Try.prog 95 #[.slice (some ⟨rb, 0, none⟩) (m + 1) cap, .int .i64 m, .int .i64 (m + 1)] w fun e w' => e = .returned (.slice (some ⟨rb, 0, none⟩) m cap) ∧ ∃ q, w' = (((w.setCell ⟨rb, m * 3, none⟩ (.int .i64 0)).setCell ⟨rb, m * 3 + 1, none⟩ (.int .i64 0)).setCell ⟨rb, m * 3 + 2, none⟩ (.int .i64 0)).drewN q := by
  have hcm : cap ≤ 9223372036854775807 := by simp only [maxLen] at hc; omega
  have g1 : ((m : Int) == (m : Int) + 1) = false := by rw [beq_eq_false_iff_ne]; omega
  have g2 : (0 : Int) ≤ (m : Int) + 1 := by omega
  have g3 : (m : Int) + 1 ≤ (cap : Int) := by omega
  have g4 : ((m : Int) + 1).toNat = m + 1 := by omega
  have happ : ∀ (a : Option Addr) (c : Nat) (W : World) (ty : TypeId), (Builtin.append_ #[104, 104] ty #[.slice (some ⟨rb, 0, none⟩) m cap, .slice a 0 c]).run Try.prog W = .ok (.slice (some ⟨rb, 0, none⟩) m cap) W := fun a c W ty => by
    have hle : m + 0 ≤ cap := by omega
    obtain ⟨i0, hi, hz0, hz1, hz2⟩ := info_parts (P := Try.prog) (e := 110) (z := .agg #[.int .i64 0, .int .i64 0, .int .i64 0]) (size := 3) (bytes := 24) (by kernel_rfl)
    simp [Builtin.append_, run_underlying Try.underlying104, sizeOf, typeInfo, hi, Builtin.lenOf, Builtin.firstCells, loadCells, loadCellsFrom, storeCells]
    rw [if_pos (by omega)]
    cases a <;> simp [storeCells]
  have hcl : ∀ (ty : TypeId) (c : Nat), (Builtin.clear_ #[104] ty #[.slice (some ⟨rb, m * 3, none⟩) 1 c]).run Try.prog w.drew = .ok (.tuple #[]) (((w.drew.setCell ⟨rb, m * 3, none⟩ (.int .i64 0)).setCell ⟨rb, m * 3 + 1, none⟩ (.int .i64 0)).setCell ⟨rb, m * 3 + 2, none⟩ (.int .i64 0)) := fun ty c => by
    have hz : ∀ W, (zeroValue 110).run Try.prog W = .ok (.agg #[.int .i64 0, .int .i64 0, .int .i64 0]) W := fun W => by kernel_rfl
    have hzc : (Builtin.zeroCells #[.int .i64 0, .int .i64 0, .int .i64 0] 1).toList = [.int .i64 0, .int .i64 0, .int .i64 0] := by kernel_rfl
    simp [Builtin.clear_, run_underlying Try.underlying104, hz, hzc, storeCells, go_sem, c0, c1, c2, fz]
  by_cases hcap : cap = m + 1
  · subst hcap
    go_enter Try.func95, Try.ntmps95
    go_wp2_with fail
    go_region
    go_wp2
    go_ret
    exact ⟨rfl, 1, rfl⟩
  · have hcap' : ¬ m + 1 = cap := fun e => hcap e.symm
    go_enter Try.func95, Try.ntmps95
    go_wp2_with fail
    go_region
    go_wp2
    go_ret
    exact ⟨rfl, 1, rfl⟩

set_option maxHeartbeats 1000000 in
theorem find_there (hb mb n : Nat) (fv rv : Value) (D : DataW Unit) (id i : Int) (w : World) (hO : Obj3 w hb fv rv (.map (some mb))) (hM : MapIs w mb n D) (hid : Is64 id)
    (hh : Maps.has D (.int .i64 id) = true) (hat : D.atKey (.int .i64 id) (.lit (.int .i64 0)) = .lit (.int .i64 i)) :
    Calls Try.prog 79 #[.pointer (some ⟨hb, 0, none⟩), .int .i64 id] w fun e w' => e = .returned (.tuple #[.int .i64 i, .int .i64 0]) ∧ w = w' := by
  have c2 := hO.c2
  have hk : keyOf Try.prog 3 (.int .i64 id) = some (.int .i64 id) := keyOf_int_mk Try.underlying3 (WalkArith.wf_i64 hid)
  have HM := Lib.hid hM
  have HA := Lib.hid hat
  clear hM hO hat
  go_enter Try.func79, Try.ntmps79
  go_wp2_with (at_lookup; refine wpList_lookup_own_ok_int _ rfl _ _ 66 rfl 3 3 .i64 intKeys Try.underlying66 Try.underlying3 (zeroInt _) mb n D rfl HM.out _ _ rfl hk ?_; intro c hc _; have hci : c = i := (by have := hc.symm.trans HA.out; simpa using this); clear hc; subst hci)
  go_ret2
  exact ⟨rfl, rfl⟩

set_option maxHeartbeats 1000000 in
theorem find_none (hb mb n : Nat) (fv rv : Value) (D : DataW Unit) (id : Int) (w : World) (hO : Obj3 w hb fv rv (.map (some mb))) (hM : MapIs w mb n D) (hid : Is64 id)
    (hh : Maps.has D (.int .i64 id) = false) :
    Calls Try.prog 79 #[.pointer (some ⟨hb, 0, none⟩), .int .i64 id] w fun e w' => e = .returned (.tuple #[.int .i64 0, .int .i64 14]) ∧ w = w' := by
  have c2 := hO.c2
  have hk : keyOf Try.prog 3 (.int .i64 id) = some (.int .i64 id) := keyOf_int_mk Try.underlying3 (WalkArith.wf_i64 hid)
  have HM := Lib.hid hM
  clear hM hO
  go_enter Try.func79, Try.ntmps79
  go_wp2_with (at_lookup; refine wpList_lookup_own_ok_int _ rfl _ _ 66 rfl 3 3 .i64 intKeys Try.underlying66 Try.underlying3 (zeroInt _) mb n D rfl HM.out _ _ rfl hk ?_; intro c hc _; clear hc)
  go_ret2
  exact ⟨rfl, rfl⟩

/-- A heap in memory, its row nil or not: 'ro' tells the row's block. -/
def HP (w : World) (hb mb : Nat) (ro : Option Nat) (fv : Value) (R : List Ent) : Prop :=
  (ro = none ∧ R = [] ∧ Obj3 w hb fv (.slice none 0 0) (.map (some mb)) ∧ MapIs w mb 0 (.map [])) ∨ (∃ rb cap, ro = some rb ∧ HeapIs w hb rb mb cap fv R)

/-- What all heaps have. -/
theorem HP.all {w : World} {hb mb : Nat} {ro : Option Nat} {fv : Value} {R : List Ent} (h : HP w hb mb ro fv R) :
    ∃ rv D, Obj3 w hb fv rv (.map (some mb)) ∧ MapIs w mb R.length D ∧ Places D R ∧ Maps.size D = R.length ∧ R.length ≤ 1099511627776 ∧ (∀ i, i < R.length → 0 ≤ rid R i ∧ Is64 (rid R i)) ∧ (∀ i, i < R.length → Is64 (rky R i).1 ∧ Is64 (rky R i).2) ∧ mb ≠ hb := by
  rcases h with ⟨rfl, rfl, hO, hM⟩ | ⟨rb, cap, rfl, h⟩
  · refine ⟨_, _, hO, hM, ⟨fun i hi => absurd hi (Nat.not_lt_zero _), fun id _ => rfl⟩, rfl, by simp, fun i hi => absurd hi (Nat.not_lt_zero _), fun i hi => absurd hi (Nat.not_lt_zero _), ?_⟩
    rintro rfl
    obtain ⟨es, cl, hm, _⟩ := hM
    rw [hO.1] at hm; cases hm
  · obtain ⟨D, hm, hp, hs⟩ := h.map
    exact ⟨_, D, h.obj, hm, hp, hs, h.small, h.ids, h.keys, h.mb_ne.1⟩

/-- A number's place, if it is there. -/
theorem HP.seek {w : World} {hb mb : Nat} {ro : Option Nat} {fv : Value} {R : List Ent} (h : HP w hb mb ro fv R) (id : Int) : (∃ i, i < R.length ∧ rid R i = id) ∨ (∀ i, i < R.length → rid R i ≠ id) := by
  by_cases e : ∃ i, i < R.length ∧ rid R i = id
  · exact .inl e
  · exact .inr fun i hi x => e ⟨i, hi, x⟩

theorem HP.find_there {w : World} {hb mb : Nat} {ro : Option Nat} {fv : Value} {R : List Ent} (h : HP w hb mb ro fv R) {i : Nat} (hi : i < R.length) :
    Calls Try.prog 79 #[.pointer (some ⟨hb, 0, none⟩), .int .i64 (rid R i)] w fun e w' => e = .returned (.tuple #[.int .i64 i, .int .i64 0]) ∧ w = w' := by
  obtain ⟨rv, D, hO, hM, hP, _, _, hid, _⟩ := h.all
  exact _root_.Go.Proofs.Ytcipilggddpnpaa.K.find_there hb mb _ fv rv D _ _ w hO hM (hid i hi).2 (hP.at_ i hi).1 (hP.at_ i hi).2
theorem HP.find_none {w : World} {hb mb : Nat} {ro : Option Nat} {fv : Value} {R : List Ent} (h : HP w hb mb ro fv R) {id : Int} (hid : Is64 id) (hn : ∀ i, i < R.length → rid R i ≠ id) :
    Calls Try.prog 79 #[.pointer (some ⟨hb, 0, none⟩), .int .i64 id] w fun e w' => e = .returned (.tuple #[.int .i64 0, .int .i64 14]) ∧ w = w' := by
  obtain ⟨rv, D, hO, hM, hP, _, _, _, _⟩ := h.all
  exact _root_.Go.Proofs.Ytcipilggddpnpaa.K.find_none hb mb _ fv rv D _ w hO hM hid (hP.no _ hn)

set_option maxHeartbeats 1000000 in
theorem len_any (w : World) (hb mb : Nat) (ro : Option Nat) (fv : Value) (R : List Ent) (h : HP w hb mb ro fv R) :
    Calls Try.prog 54 #[.pointer (some ⟨hb, 0, none⟩)] w fun e w' => e = .returned (.int .i64 R.length) ∧ w = w' := by
  have c1 : ∃ a c, w.cell? ⟨hb, 1, none⟩ = some (.slice a R.length c) := by
    rcases h with ⟨rfl, rfl, hO, hM⟩ | ⟨rb, cap, rfl, h⟩
    · exact ⟨none, 0, hO.c1⟩
    · exact ⟨_, _, h.obj.c1⟩
  obtain ⟨a, c, c1⟩ := c1
  clear h
  generalize R.length = n at *
  go_enter Try.func54, Try.ntmps54
  go_wp2
  go_ret
  exact ⟨rfl, rfl⟩

set_option maxHeartbeats 1000000 in
set_option maxRecDepth 20000 in
theorem peek_none (w : World) (hb mb : Nat) (ro : Option Nat) (fv : Value) (R : List Ent) (h : HP w hb mb ro fv R) (h0 : R.length = 0) :
    Calls Try.prog 55 #[.pointer (some ⟨hb, 0, none⟩)] w fun e w' => e = .returned (.tuple #[.int .i64 0, kv (0, 0), .int .i64 14]) ∧ Grew w w' := by
  have hlt : hb < w.heap.size := by
    rcases h with ⟨rfl, rfl, hO, hM⟩ | ⟨rb, cap, rfl, h⟩
    · exact hO.lt
    · exact h.obj.lt
  have c1 : ∃ a c, w.cell? ⟨hb, 1, none⟩ = some (.slice a 0 c) := by
    rcases h with ⟨rfl, rfl, hO, hM⟩ | ⟨rb, cap, rfl, h⟩
    · exact ⟨none, 0, hO.c1⟩
    · have := h.obj.c1; rw [h0] at this; exact ⟨_, _, this⟩
  obtain ⟨a, c, c1⟩ := c1
  obtain ⟨W, hW⟩ : ∃ W, w.alloc (.cells #[.int .i64 0, .int .i64 0] 37) = W := ⟨_, rfl⟩
  have hG : Grew w W := by rw [← hW]; exact (Grew.refl w).alloc _
  have d1 : W.cell? ⟨hb, 1, none⟩ = some (.slice a 0 c) := (hG.cell hlt).trans c1
  have d2 : W.cell? ⟨w.heap.size, 0, none⟩ = some (.int .i64 0) := by rw [← hW]; simp [go_sem]
  have d3 : W.cell? ⟨w.heap.size, 1, none⟩ = some (.int .i64 0) := by rw [← hW]; simp [go_sem]
  have d4 : W.frozen? ⟨w.heap.size, 0, none⟩ = false := by rw [← hW]; simp [go_sem]
  have d5 : W.frozen? ⟨w.heap.size, 1, none⟩ = false := by rw [← hW]; simp [go_sem]
  have HG := Lib.hid hG
  clear h h0 c1 hG
  go_enter Try.func55, Try.ntmps55
  go_wp2_with fail
  clear hW
  go_region
  go_wp2
  refine bodyPost_ret (v := .tuple #[.int .i64 0, kv (0, 0), .int .i64 14]) (by simp [results, Try.f55, go_sem, d2, d3]) rfl ⟨rfl, ?_⟩
  exact ((HG.out.setCell (Nat.le_refl _) _).setCell (Nat.le_refl _) _).drew

set_option maxHeartbeats 1000000 in
set_option maxRecDepth 20000 in
theorem peek_some (w : World) (hb mb rb cap : Nat) (fv : Value) (R : List Ent) (h : HeapIs w hb rb mb cap fv R) (h0 : 0 < R.length) :
    Calls Try.prog 55 #[.pointer (some ⟨hb, 0, none⟩)] w fun e w' => e = .returned (.tuple #[.int .i64 (rid R 0), kv (rky R 0), .int .i64 0]) ∧ Grew w w' := by
  obtain ⟨W, hW⟩ : ∃ W, w.alloc (.cells #[.int .i64 0, .int .i64 0] 37) = W := ⟨_, rfl⟩
  have hG : Grew w W := by rw [← hW]; exact (Grew.refl w).alloc _
  have c1 := (h.grew hG).obj.c1
  have r0 := (h.grew hG).row.cell0 h0
  have r1 := (h.grew hG).row.cell1 h0
  have r2 := (h.grew hG).row.cell2 h0
  simp only [Nat.zero_mul, Nat.zero_add] at r0 r1 r2
  have hn : ((R.length : Int) == 0) = false := by rw [beq_eq_false_iff_ne]; omega
  have hn' : (0 : Int) < (R.length : Int) := by omega
  have hsz : W.heap.size = w.heap.size + 1 := by rw [← hW]; simp
  have hwz : ¬ w.heap.size + 1 = w.heap.size := by omega
  have hwz2 : ¬ w.heap.size = w.heap.size + 1 := by omega
  have hkv : kv (rky R 0) = .agg #[.int .i64 (rky R 0).1, .int .i64 (rky R 0).2] := rfl
  rw [hkv]
  obtain ⟨W2, hW2⟩ : ∃ W2, W.alloc (.cells #[.int .i64 (rid R 0), .int .i64 (rky R 0).1, .int .i64 (rky R 0).2] 110) = W2 := ⟨_, rfl⟩
  have hG2 : Grew w W2 := by rw [← hW2]; exact hG.alloc _
  have d2 : W2.cell? ⟨w.heap.size, 0, none⟩ = some (.int .i64 0) := by rw [← hW2, ← hW]; simp [go_sem]
  have d3 : W2.cell? ⟨w.heap.size, 1, none⟩ = some (.int .i64 0) := by rw [← hW2, ← hW]; simp [go_sem]
  have d4 : W2.frozen? ⟨w.heap.size, 0, none⟩ = false := by rw [← hW2, ← hW]; simp [go_sem]
  have d5 : W2.frozen? ⟨w.heap.size, 1, none⟩ = false := by rw [← hW2, ← hW]; simp [go_sem]
  have d6 : W2.cell? ⟨w.heap.size + 1, 0, none⟩ = some (.int .i64 (rid R 0)) := by rw [← hW2, ← hW]; simp [go_sem]
  have d7 : W2.cell? ⟨w.heap.size + 1, 1, none⟩ = some (.int .i64 (rky R 0).1) := by rw [← hW2, ← hW]; simp [go_sem]
  have d8 : W2.cell? ⟨w.heap.size + 1, 2, none⟩ = some (.int .i64 (rky R 0).2) := by rw [← hW2, ← hW]; simp [go_sem]
  have HG := Lib.hid hG2
  clear h hG hG2 hkv
  generalize rid R 0 = id at *
  generalize (rky R 0).1 = k at *
  generalize (rky R 0).2 = k2 at *
  generalize R.length = n at *
  go_enter Try.func55, Try.ntmps55
  go_wp2_with fail
  clear hW hW2
  go_region
  go_wp2
  refine bodyPost_ret (v := .tuple #[.int .i64 id, .agg #[.int .i64 k, .int .i64 k2], .int .i64 0]) (by simp [results, Try.f55, go_sem, d2, d3]) rfl ⟨rfl, ?_⟩
  exact ((HG.out.setCell (Nat.le_refl _) _).setCell (Nat.le_refl _) _).drew

end Go.Proofs.Ytcipilggddpnpaa.K
