/-
  The walks of the document's answer for layer 1: digits, carried, Of, Plus, Under, Half.
-/
import Derived.Test.YthindhclcdbnfaaWide
import Derived.Test.YthindhclcdbnfaaDigits
import Derived.Maps.AppendAt
import Derived.OwnWalk
import Derived.Lib.SmallJoins
import Derived.Deep.QuietTactic
import Derived.BigQuiet
namespace Go.Proofs.Ythindhclcdbnfaa
open Go.RowKit
set_option linter.unusedVariables false

/-- Digits as ints. -/
def cellsD (l : List Nat) : List Value := l.map fun (d : Nat) => .int .i64 (d : Int)
/-- A block whose first cells are digits. -/
def RowD (W : World) (g : Nat) (l : List Nat) : Prop := g < W.heap.size ∧ ∀ i, i < l.length → W.cell? ⟨g, i, none⟩ = some (.int .i64 ((l.getD i 0 : Nat) : Int))

theorem RowD.next {W W' : World} {g : Nat} {l : List Nat} (h : RowD W g l) (hb : Below W.heap.size W W') : RowD W' g l :=
  ⟨Nat.lt_of_lt_of_le h.1 hb.size, fun i hi => (hb.cell (p := ⟨g, i, none⟩) h.1).trans (h.2 i hi)⟩
theorem RowD.drewN {W : World} {g : Nat} {l : List Nat} (h : RowD W g l) (n : Nat) : RowD (W.drewN n) g l := h

theorem cellsD_get (l : List Nat) (i : Nat) (h : i < l.length) : (cellsD l)[i]? = some (.int .i64 ((l.getD i 0 : Nat) : Int)) := by
  unfold cellsD
  rw [List.getElem?_map, List.getElem?_eq_getElem h, List.getD_eq_getElem?_getD, List.getElem?_eq_getElem h]
  rfl
theorem cellsD_one (l : List Nat) : ∀ u ∈ cellsD l, u.oneCell' = true := by
  intro u hu
  obtain ⟨d, _, rfl⟩ := List.mem_map.1 hu
  rfl
theorem rowD_of_own {W : World} {base g cap n : Nat} {l : List Nat} (h : W.ownsRow base 3 1 (.slice (some ⟨g, 0, none⟩) n cap) n (cellsD l)) (hn : l.length = n) : RowD W g l := by
  refine ⟨(h.lt g rfl).2, fun i hi => ?_⟩
  rw [h.cellAt i (by omega), cellsD_get l i hi]

theorem int_info : (Try.prog.info? 3).map (fun i => (i.zero, i.size, i.bytes)) = some (some (.int .i64 0), 1, 8) := by kernel_rfl

/-- The loop of digits, behind k rounds. -/
def DigRel (w : World) (N : Nat) (n out i : Value) (wr : World) : Prop :=
  ∃ k : Nat, k ≤ 4 ∧ i = .int .i64 k ∧ n = .int .u64 ((N / 65536 ^ k : Nat) : Int) ∧ wr.ownsRow w.heap.size 3 1 out k (cellsD (digs k N)) ∧ Below w.heap.size w wr

set_option maxHeartbeats 1000000 in
theorem digits_any (N : Nat) (hN : N < 18446744073709551616) (w : World) :
    Calls Try.prog 39 #[.int .u64 N] w fun e w' => ∃ g cap, e = .returned (.slice (some ⟨g, 0, none⟩) 4 cap) ∧ w'.ownsRow w.heap.size 3 1 (.slice (some ⟨g, 0, none⟩) 4 cap) 4 (cellsD (digs 4 N)) ∧ Below w.heap.size w w' := by
  obtain ⟨i0, hi0, hz0, hz1, hz2⟩ := info_parts int_info
  go_enter Try.func39, Try.ntmps39
  go_wp2
  go_loopw [0, 3, 4] (fun n out i wr => DigRel w N n out i wr) (fun _ _ i _ => 4 - (intOf i).toNat)
  case atStart => exact ⟨0, by omega, rfl, by simp, World.ownsRow_nil _ _ _ _, Below.refl _ _⟩
  case round =>
    obtain ⟨k, hk, rfl, rfl, hown, hbel⟩ := hrel
    have hM : N / 65536 ^ k < 18446744073709551616 := Nat.lt_of_le_of_lt (Nat.div_le_self _ _) hN
    have HD := Lib.hid (digs_snoc k N)
    have HM : Hid (N / 65536 ^ k / 65536 = N / 65536 ^ (k + 1)) := by rw [Nat.div_div_eq_div_mul, ← Nat.pow_succ]; exact rfl
    generalize N / 65536 ^ k = M at *
    by_cases hlt : k < 4
    · have em : (M : Int) % 65536 = ((M % 65536 : Nat) : Int) := by omega
      have ed : (M : Int) / 65536 = ((M / 65536 : Nat) : Int) := by omega
      have hl : M % 65536 < 65536 := Nat.mod_lt _ (by decide)
      generalize M % 65536 = r at *
      generalize M / 65536 = q at *
      have Hown := Lib.hid (hown.alloc (.cells #[.int .i64 (r : Int)] 3))
      have Hbel := Lib.hid (hbel.alloc hbel.size (.cells #[.int .i64 (r : Int)] 3))
      have hsz := hbel.size
      clear hown hbel
      go_wp2_with (at_builtin; refine wpList_append_own _ rfl (.tmp 9) (.tmp 13) _ rfl w.heap.size 3 i0 _ 1 8 Try.underlying35 hi0 hz0 hz1 hz2 rfl (by omega) u3 k (cellsD (digs k N)) rfl Hown.out ⟨wr.heap.size, 0, none⟩ 1 1 (cellsD [r]) rfl rfl (cell_one_new _ _ _) (cellsD_one _) (by simp only [maxLen]; omega) (by omega) (by simp; omega) ?_)
      intro v1 w1 hown1 hg1 hn1
      have hb1 : Below w.heap.size w w1 := Hbel.out.grown hg1 (by simp; omega) (fun g hg => (Hown.out.lt g hg).1)
      have hown2 : w1.ownsRow w.heap.size 3 1 v1 (k + 1) (cellsD (digs (k + 1) N)) := by
        rw [HD.out]; unfold cellsD at hown1 ⊢; rw [List.map_append]; exact hown1
      have Hown2 := Lib.hid hown2
      have Hb1 := Lib.hid hb1
      clear hown1 hg1 hn1 hb1 hown2 Hown Hbel
      go_wp2
      exact ⟨⟨k + 1, by omega, by go_num, by rw [HM.out], Hown2.out, Hb1.out⟩, by simp [intOf]; omega⟩
    · obtain rfl : k = 4 := by omega
      obtain ⟨g, cap, rfl⟩ := Joins.ownsRow_form hown (by omega)
      go_wp2
      go_ret
      exact ⟨g, cap, rfl, hown, hbel⟩

theorem make12 : ∀ w : World, (Instr.makeSlice 35 (.int .i64 12) (.int .i64 12)).run Try.prog w = .ok (.slice (some ⟨w.heap.size, 0, none⟩) 12 12) (w.alloc (.cells (List.replicate 12 (Value.int .i64 0)).toArray 3)) := fun _ => by kernel_rfl

theorem valD_drop (zs : List Nat) (k : Nat) : valD (zs.drop k) = zs.getD k 0 + 65536 * valD (zs.drop (k + 1)) := by
  rw [valD_cons (zs.drop k), List.tail_drop]
  congr 1
  rw [List.headD_eq_head?_getD, List.head?_drop, List.getD_eq_getElem?_getD]

/-- The loop of carried, behind k rounds. -/
def CarRel (w : World) (zs : List Nat) (V : Nat) (ov i : Value) (wr : World) : Prop :=
  ∃ k o : Nat, k ≤ 12 ∧ i = .int .i64 k ∧ ov = .int .i64 o ∧ o ≤ 1099511627776 ∧ o + valD (zs.drop k) = V / 65536 ^ k ∧
    wr.heap[w.heap.size]? = some (.cells (cellsD (digs k V) ++ List.replicate (12 - k) (Value.int .i64 0)).toArray 3 (0, 0)) ∧ Below w.heap.size w wr

theorem cells_set (l : List Nat) (k m : Nat) (r : Nat) (hk : l.length = k) : (cellsD l ++ List.replicate (m + 1) (Value.int .i64 0)).toArray.setIfInBounds k (.int .i64 (r : Int)) = (cellsD (l ++ [r]) ++ List.replicate m (Value.int .i64 0)).toArray := by
  have hl : (cellsD l).length = k := by unfold cellsD; rw [List.length_map]; exact hk
  rw [List.setIfInBounds_toArray, List.set_append_right _ _ (by omega), hl, Nat.sub_self, List.replicate_succ, List.set_cons_zero]
  unfold cellsD
  rw [List.map_append, List.append_assoc]
  rfl

theorem car_step {w wr : World} {zs : List Nat} {V k o z m : Nat} (hk : k < 12) (hm : 12 - k = m + 1) (ho : o ≤ 1099511627776) (hz : z ≤ 1099511627776) (hv : o + valD (zs.drop k) = V / 65536 ^ k) (hd : valD (zs.drop k) = z + 65536 * valD (zs.drop (k + 1)))
    (hblk : wr.heap[w.heap.size]? = some (.cells (cellsD (digs k V) ++ List.replicate (12 - k) (Value.int .i64 0)).toArray 3 (0, 0))) (hbel : Below w.heap.size w wr) :
    CarRel w zs V (.int .i64 (((o : Int) + (z : Int)) / 65536)) (.int .i64 ((k : Int) + 1)) (wr.setCell ⟨w.heap.size, k, none⟩ (.int .i64 (((o : Int) + (z : Int)) % 65536))) := by
  have hp : V / 65536 ^ (k + 1) = V / 65536 ^ k / 65536 := by rw [Nat.div_div_eq_div_mul, ← Nat.pow_succ]
  have hn : V / 65536 ^ k = o + z + 65536 * valD (zs.drop (k + 1)) := by omega
  refine ⟨k + 1, (o + z) / 65536, by omega, by go_num, ?_, by omega, by omega, ?_, hbel.setCell (Nat.le_refl _) _⟩
  · rw [Int.natCast_ediv, Int.natCast_add]; rfl
  · have h := Joins.block_setCell hblk (i := k) (.int .i64 (((o : Int) + (z : Int)) % 65536))
    rw [h]
    have e : ((o : Int) + (z : Int)) % 65536 = ((V / 65536 ^ k % 65536 : Nat) : Int) := by omega
    rw [e, hm, cells_set _ k m _ (digs_length k V), ← digs_snoc, show 12 - (k + 1) = m by omega]

set_option maxHeartbeats 1000000 in
theorem carried_any (ga cap : Nat) (zs : List Nat) (w : World) (hr : RowD w ga zs) (hz : ∀ i, zs.getD i 0 ≤ 1099511627776) (hl : zs.length ≤ 12) :
    Calls Try.prog 40 #[.slice (some ⟨ga, 0, none⟩) zs.length cap] w fun e w' => e = .returned (.slice (some ⟨w.heap.size, 0, none⟩) 12 12) ∧ RowD w' w.heap.size (digs 12 (valD zs)) ∧ Below w.heap.size w w' := by
  have hmk := make12
  obtain ⟨len, hlen⟩ : ∃ len, zs.length = len := ⟨_, rfl⟩
  have Hlen := Lib.hid hlen
  rw [hlen] at hl ⊢
  clear hlen
  obtain ⟨hga, hcell⟩ := hr
  have Hcell := Lib.hid hcell
  have Hz := Lib.hid hz
  clear hcell hz
  go_enter Try.func40, Try.ntmps40
  go_wp2
  go_loopw [4, 5] (fun ov i wr => CarRel w zs (valD zs) ov i wr) (fun _ i _ => 12 - (intOf i).toNat)
  case atStart => exact ⟨0, 0, by omega, rfl, rfl, by omega, by simp, heap_alloc_new w _, (Below.refl _ _).alloc (Nat.le_refl _) _⟩
  case round =>
    obtain ⟨k, o, hk, rfl, rfl, ho, hv, hblk, hbel⟩ := hrel
    have Hsn := Lib.hid (digs_snoc k (valD zs))
    have Hpw : Hid (valD zs / 65536 ^ (k + 1) = valD zs / 65536 ^ k / 65536) := by rw [Nat.div_div_eq_div_mul, ← Nat.pow_succ]; exact rfl
    have Hdr := Lib.hid (valD_drop zs k)
    have Hv := Lib.hid hv
    have Hblk := Lib.hid hblk
    have Hbel := Lib.hid hbel
    have hzk := Hz.out k
    clear hv hblk hbel
    by_cases hlt : k < 12
    · obtain ⟨m, hm⟩ : ∃ m, 12 - k = m + 1 := ⟨11 - k, by omega⟩
      have hc0 : wr.cell? ⟨w.heap.size, k, none⟩ = some (.int .i64 0) := by
        rw [Joins.cell_of_block Hblk.out k, hm]
        simp [cellsD, digs_length]
      have hf0 : wr.frozen? ⟨w.heap.size, k, none⟩ = false := Joins.unfrozen_of_block Hblk.out k
      have Hm := Lib.hid hm
      clear hm
      by_cases hin : k < len
      · have hc : wr.cell? ⟨ga, k, none⟩ = some (.int .i64 ((zs.getD k 0 : Nat) : Int)) := by
          rw [Hbel.out.cell (p := ⟨ga, k, none⟩) hga]
          exact Hcell.out k (by rw [Hlen.out]; exact hin)
        generalize zs.getD k 0 = z at *
        go_wp2
        exact ⟨car_step hlt Hm.out ho hzk Hv.out Hdr.out Hblk.out Hbel.out, by simp [intOf]; omega⟩
      · have hz0 : zs.getD k 0 = 0 := by rw [List.getD_eq_getElem?_getD, List.getElem?_eq_none (by rw [Hlen.out]; omega)]; rfl
        have Hdr0 : Hid (valD (zs.drop k) = 0 + 65536 * valD (zs.drop (k + 1))) := by have := Hdr.out; rw [hz0] at this; exact this
        clear hz0 hzk Hdr
        have st := Lib.hid (car_step hlt Hm.out ho (by omega) Hv.out Hdr0.out Hblk.out Hbel.out)
        rw [show (o : Int) + ((0 : Nat) : Int) = (o : Int) by omega] at st
        go_wp2
        exact ⟨st.out, by simp [intOf]; omega⟩
    · obtain rfl : k = 12 := by omega
      clear hzk
      go_wp2
      go_ret
      refine ⟨rfl, ⟨?_, fun i hi => ?_⟩, Hbel.out⟩
      · rcases Nat.lt_or_ge w.heap.size wr.heap.size with h | h
        · exact h
        · have := Hblk.out; rw [Array.getElem?_eq_none h] at this; cases this
      · rw [digs_length] at hi
        rw [Joins.cell_of_block Hblk.out i]
        simp only [Nat.sub_self, List.replicate_zero, List.append_nil, List.getElem?_toArray]
        exact cellsD_get _ i (by rw [digs_length]; exact hi)
end Go.Proofs.Ythindhclcdbnfaa
