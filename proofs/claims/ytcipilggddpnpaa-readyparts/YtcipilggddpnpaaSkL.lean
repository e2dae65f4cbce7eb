/-
  (*Heap[int]).All: the sorted copy, and the closure over it.
-/
import Derived.Test.YtcipilggddpnpaaSkK
namespace Go.Proofs.Ytcipilggddpnpaa.K
open Go.RowKit Go.Sort Go.Shelf Go.Maps
set_option linter.unusedVariables false
set_option linter.unusedSimpArgs false

theorem swo_of_weak {lt : Ent → Ent → Bool} (h : Hp.Weak lt) : SWO lt := ⟨fun x => h.irr x, fun x y z h1 h2 => h.tr h1 h2, fun x y z => h.ntr x y z⟩

theorem cmpOk_heap (g : Nat) (cb : Array Value) (lt : Ky → Ky → Bool) (w1 : World) (S1 : Nat → Prop) (hl : LessIs g cb lt w1 S1) (hb rb : Nat) (w0 : World) (hlt : hb < w0.heap.size) (hne : hb ≠ rb) (hc : w0.cell? ⟨hb, 0, none⟩ = some (.func (.func g) #[] cb)) (hK : ∀ W, Kept (fun k => k = rb) w0 W → Kept S1 w1 W) :
    CmpOk 76 (.pointer (some ⟨hb, 0, none⟩)) (cmpE lt) rb w0 where
  enters := enters_of Try.func76 (by kernel_rfl) rfl
  says := fun W x y k => compare_any g cb lt w1 S1 hl hb x y W (Nat.lt_of_lt_of_le hlt k.size) (by rw [k.cell (by exact hlt) (by exact hne)]; exact hc) (hK W k)

/-- What All tells of: the entries in their order. -/
def sortE (lt : Ky → Ky → Bool) (R : List Ent) : List Ent := (Go.Sort.sort (lo (cmpE lt)) R.toArray).toList

theorem sortE_perm {lt : Ky → Ky → Bool} (h : Hp.Weak lt) (R : List Ent) : (sortE lt R).Perm R := by
  have hs := (sort_sorts (lo (cmpE lt)) (swo_of_weak (ahd_weak h)) R.toArray).1
  have h3 := hs.2.2
  have e1 : (Go.Sort.sort (lo (cmpE lt)) R.toArray).extract 0 R.toArray.size = Go.Sort.sort (lo (cmpE lt)) R.toArray := by rw [← hs.1]; exact Array.extract_size
  rw [e1, Array.extract_size] at h3
  exact h3
theorem sortE_rises {lt : Ky → Ky → Bool} (h : Hp.Weak lt) (R : List Ent) (i j : Nat) (hij : i < j) (hj : j < R.length) : ahd lt ((sortE lt R).getD j (0, 0, 0)) ((sortE lt R).getD i (0, 0, 0)) = false := by
  have hs := sort_sorts (lo (cmpE lt)) (swo_of_weak (ahd_weak h)) R.toArray
  have hsz : (Go.Sort.sort (lo (cmpE lt)) R.toArray).size = R.length := hs.1.1
  unfold sortE
  rw [getD_toList _ j (by omega), getD_toList _ i (by omega)]
  exact hs.2 i j (Nat.zero_le _) hij (by simpa using hj)
theorem sortE_len {lt : Ky → Ky → Bool} (h : Hp.Weak lt) (R : List Ent) : (sortE lt R).length = R.length := (sortE_perm h R).length_eq

/-- Block c holds the row that the closure goes through: S, in blocks from B on. -/
def SeqAt (B c : Nat) (S : List Ent) (w : World) : Prop :=
  B ≤ c ∧ ∃ rv, w.heap[c]? = some (.cells #[rv] 104 (0, 0)) ∧ ((S = [] ∧ rv = .slice none 0 0) ∨ ∃ rb cap, B ≤ rb ∧ rb ≠ c ∧ rv = .slice (some ⟨rb, 0, none⟩) S.length cap ∧ RowAt w rb cap S)

set_option maxHeartbeats 1000000 in
theorem clone_nil (w : World) : Calls Try.prog 74 #[.slice none 0 0] w fun e w' => e = .returned (.slice none 0 0) ∧ w' = w := by
  have mixed : Try.prog.follows .mixedOrders = true := by kernel_rfl
  have q1 : ∀ (w : World) (a : Option Addr) (n c n' c' : Nat), (binOp .eql 104 (.slice a n c) (.slice none n' c')).run Try.prog w = .ok (.bool a.isNone) w := fun w a n c n' c' => Lib.run_eql_slice_nil w _ _ a n c n' c' Try.underlying104
  go_enter Try.func74, Try.ntmps74
  go_wp2_with fail
  go_ret
  exact ⟨rfl, rfl⟩

set_option maxHeartbeats 1000000 in
theorem insertion_nil (fv : Value) (w : World) : Calls Try.prog 106 #[.slice none 0 0, .int .i64 0, .int .i64 0, fv] w fun e w' => e = .returned (.tuple #[]) ∧ w' = w := by
  have mixed : Try.prog.follows .mixedOrders = true := by kernel_rfl
  go_enter Try.func106, Try.ntmps106
  go_wp2_with fail
  go_loopg [8] 0 (fun gk s wr => s = .int .i64 1 ∧ wr = w)
  case atStart => exact ⟨by first | rfl | go_num, rfl⟩
  case round =>
    obtain ⟨rfl, rfl⟩ := hrel
    go_wp2_with fail
    go_end0
    exact ⟨rfl, rfl⟩

set_option maxHeartbeats 4000000 in
set_option maxRecDepth 100000 in
theorem pdq_nil (fv : Value) (w : World) : Calls Try.prog 96 #[.slice none 0 0, .int .i64 0, .int .i64 0, .int .i64 0, fv] w fun e w' => e = .returned (.tuple #[]) ∧ w' = w := by
  have mixed : Try.prog.follows .mixedOrders = true := by kernel_rfl
  have C : ∀ w, Hid (Calls Try.prog 106 #[.slice none 0 0, .int .i64 0, .int .i64 0, fv] w fun e w' => e = .returned (.tuple #[]) ∧ w' = w) := fun w => insertion_nil fv w
  go_enter Try.func96, Try.ntmps96
  go_wp2_with fail
  go_loopg [1, 2, 3, 10, 11] 0 (fun gk s1 s2 s3 s4 s5 wr => s1 = .int .i64 0 ∧ s2 = .int .i64 0 ∧ s3 = .int .i64 0 ∧ s4 = .bool true ∧ s5 = .bool true ∧ wr = w)
  case atStart => exact ⟨rfl, rfl, rfl, rfl, rfl, rfl⟩
  case round =>
    obtain ⟨rfl, rfl, rfl, rfl, rfl, rfl⟩ := hrel
    go_wp2_with (go_at_call 106; (with_reducible refine (C _).out.mono ?_); rintro e w' ⟨rfl, rfl⟩)
    refine bodyPost_ret (results_none rfl _ _ _) rfl ?_
    exact ⟨rfl, rfl⟩

set_option maxHeartbeats 1000000 in
theorem sortFunc_nil (fv : Value) (w : World) : Calls Try.prog 75 #[.slice none 0 0, fv] w fun e w' => e = .returned (.tuple #[]) ∧ w' = w := by
  have mixed : Try.prog.follows .mixedOrders = true := by kernel_rfl
  have C0 : ∀ w, Hid (Calls Try.prog 64 #[.int .u64 0] w fun e w' => e = .returned (.int .i64 0) ∧ w' = w) := fun w => bitsLen_any 0 (by decide) w
  have C : ∀ w, Hid (Calls Try.prog 96 #[.slice none 0 0, .int .i64 0, .int .i64 0, .int .i64 0, fv] w fun e w' => e = .returned (.tuple #[]) ∧ w' = w) := fun w => pdq_nil fv w
  go_enter Try.func75, Try.ntmps75
  go_wp2_with (first | (go_at_call 64; (with_reducible refine (C0 _).out.mono ?_); rintro e w' ⟨rfl, rfl⟩) | (go_at_call 96; (with_reducible refine (C _).out.mono ?_); rintro e w' ⟨rfl, rfl⟩))
  go_end0
  exact ⟨rfl, rfl⟩

set_option maxHeartbeats 2000000 in
theorem all_any (g : Nat) (cb : Array Value) (lt : Ky → Ky → Bool) (w : World) (hl : LessIs g cb lt w (fun _ => False)) (hW : Hp.Weak lt) (hb mb : Nat) (ro : Option Nat) (R : List Ent) (h : HP w hb mb ro (.func (.func g) #[] cb) R) :
    Calls Try.prog 51 #[.pointer (some ⟨hb, 0, none⟩)] w fun e w' => e = .returned (.func (.func 77) #[] #[.pointer (some ⟨w.heap.size, 0, none⟩)]) ∧ SeqAt w.heap.size w.heap.size (sortE lt R) w' ∧ Kept (fun _ => False) w w' := by
  have mixed : Try.prog.follows .mixedOrders = true := by kernel_rfl
  obtain ⟨W0, hW0⟩ : ∃ W0, w.alloc (.cells #[.slice none 0 0] 104) = W0 := ⟨_, rfl⟩
  have s0 : W0.heap.size = w.heap.size + 1 := by rw [← hW0]; simp
  have b0 : W0.heap[w.heap.size]? = some (.cells #[.slice none 0 0] 104 (0, 0)) := by rw [← hW0]; exact heap_alloc_new _ _
  have k0 : Kept (fun _ => False) w W0 := by rw [← hW0]; exact (Kept.refl _ w).alloc _
  have L1 : ∀ w1, Kept (fun _ => False) W0 w1 → w1.cell? ⟨w.heap.size, 0, none⟩ = some (.slice none 0 0) ∧ w1.frozen? ⟨w.heap.size, 0, none⟩ = false ∧ w1.heap[w.heap.size]? = some (.cells #[.slice none 0 0] 104 (0, 0)) := fun w1 k => by
    have e := (k.block w.heap.size (by omega) (fun x => x)).trans b0
    exact ⟨by simp [World.cell?, e], by simp [World.frozen?, e], e⟩
  rcases h with ⟨rfl, rfl, hO, hM⟩ | ⟨rb, cap, rfl, h⟩
  · have c1 : W0.cell? ⟨hb, 1, none⟩ = some (.slice none 0 0) := by rw [k0.cell (by exact hO.lt) (fun x => x)]; exact hO.c1
    have C1 : Hid (Calls Try.prog 74 #[.slice none 0 0] W0 fun e w' => e = .returned (.slice none 0 0) ∧ w' = W0) := clone_nil W0
    obtain ⟨l1, l2, l3⟩ := L1 W0 (Kept.refl _ _)
    obtain ⟨W1, hW1⟩ : ∃ W1, W0.setCell ⟨w.heap.size, 0, none⟩ (.slice none 0 0) = W1 := ⟨_, rfl⟩
    have b1 : W1.heap[w.heap.size]? = some (.cells #[.slice none 0 0] 104 (0, 0)) := by rw [← hW1]; simp [World.setCell, Array.getElem?_modify, b0]
    have d1 : W1.cell? ⟨w.heap.size, 0, none⟩ = some (.slice none 0 0) := by simp [World.cell?, b1]
    have k1 : Kept (fun _ => False) w W1 := by rw [← hW1]; exact k0.setCell (p := ⟨w.heap.size, 0, none⟩) (.inr (Nat.le_refl _)) _
    have C2 : Hid (Calls Try.prog 75 #[.slice none 0 0, .func (.func 76) #[.pointer (some ⟨hb, 0, none⟩)] #[]] W1 fun e w' => e = .returned (.tuple #[]) ∧ w' = W1) := sortFunc_nil _ W1
    have HE : Hid (SeqAt w.heap.size w.heap.size (sortE lt []) W1 ∧ Kept (fun _ => False) w W1) := ⟨⟨Nat.le_refl _, _, b1, .inl ⟨List.eq_nil_of_length_eq_zero (sortE_len hW []), rfl⟩⟩, k1⟩
    clear hO hM L1 k0 k1 b0 b1 l3 hl hW
    go_enter Try.func51, Try.ntmps51
    go_wp2_with (first | (go_at_call 74; (try rw [hW0]); (with_reducible refine C1.out.mono ?_); rintro e w' ⟨rfl, rfl⟩) | (go_at_call 75; (try rw [hW1]); (with_reducible refine C2.out.mono ?_); rintro e w' ⟨rfl, rfl⟩))
    go_ret
    exact ⟨rfl, HE.out⟩
  · have hlt := h.obj.lt
    have c1 : W0.cell? ⟨hb, 1, none⟩ = some (.slice (some ⟨rb, 0, none⟩) R.length cap) := by rw [k0.cell (by exact hlt) (fun x => x)]; exact h.obj.c1
    have f0 : W0.cell? ⟨hb, 0, none⟩ = some (.func (.func g) #[] cb) := by rw [k0.cell (by exact hlt) (fun x => x)]; exact h.obj.c0
    have C1 : Hid (Calls Try.prog 74 #[.slice (some ⟨rb, 0, none⟩) R.length cap] W0 fun e w' => ∃ rb' cap', e = .returned (.slice (some ⟨rb', 0, none⟩) R.length cap') ∧ W0.heap.size ≤ rb' ∧ RowAt w' rb' cap' R ∧ Kept (fun _ => False) W0 w') := clone_any rb cap R h.small W0 (h.row.kept (k0.block rb h.row.lt (fun x => x)))
    have T : ∀ rb' cap' w1, W0.heap.size ≤ rb' ∧ RowAt w1 rb' cap' R ∧ Kept (fun _ => False) W0 w1 → (w1.setCell ⟨w.heap.size, 0, none⟩ (.slice (some ⟨rb', 0, none⟩) R.length cap')).cell? ⟨w.heap.size, 0, none⟩ = some (.slice (some ⟨rb', 0, none⟩) R.length cap') ∧
        Hid (Calls Try.prog 75 #[.slice (some ⟨rb', 0, none⟩) R.length cap', .func (.func 76) #[.pointer (some ⟨hb, 0, none⟩)] #[]] (w1.setCell ⟨w.heap.size, 0, none⟩ (.slice (some ⟨rb', 0, none⟩) R.length cap')) fun e w' => e = .returned (.tuple #[]) ∧ SeqAt w.heap.size w.heap.size (sortE lt R) w' ∧ Kept (fun _ => False) w w') := by
      rintro rb' cap' w1 ⟨hB, hrow, hk⟩
      have b1 := (L1 w1 hk).2.2
      obtain ⟨W2, hW2⟩ : ∃ W2, w1.setCell ⟨w.heap.size, 0, none⟩ (.slice (some ⟨rb', 0, none⟩) R.length cap') = W2 := ⟨_, rfl⟩
      have b2 : W2.heap[w.heap.size]? = some (.cells #[.slice (some ⟨rb', 0, none⟩) R.length cap'] 104 (0, 0)) := by rw [← hW2]; simp [World.setCell, Array.getElem?_modify, b1]
      have r2 : RowAt W2 rb' cap' R := hrow.kept (by rw [← hW2]; exact Below.heap_setCell _ _ _ _ (by show rb' ≠ w.heap.size; omega))
      have k2 : Kept (fun _ => False) w W2 := by rw [← hW2]; exact (k0.trans hk).setCell (p := ⟨w.heap.size, 0, none⟩) (.inr (Nat.le_refl _)) _
      have f2 : W2.cell? ⟨hb, 0, none⟩ = some (.func (.func g) #[] cb) := by rw [k2.cell (by exact hlt) (fun x => x)]; exact h.obj.c0
      rw [hW2]
      refine ⟨by simp [World.cell?, b2], ?_⟩
      have hS : Srt W2 rb' cap' R.toArray W2 := ⟨by simpa using r2, Kept.refl _ _⟩
      have hC := cmpOk_heap g cb lt w (fun _ => False) hl hb rb' W2 (Nat.lt_of_lt_of_le hlt k2.size) (by omega) f2 (fun W k => kept_then k2 k (fun i hi => .inr (by subst hi; omega)))
      have hh := sortFunc_any _ _ (cmpE lt) rb' cap' W2 hC (swo_of_weak (ahd_weak hW)) R.length h.small R.toArray (by simp) W2 hS
      refine hh.mono ?_
      rintro e w' ⟨rfl, h3⟩
      have hcb : w.heap.size < W2.heap.size := (Array.getElem?_eq_some_iff.1 b2).1
      refine ⟨rfl, ⟨Nat.le_refl _, _, (h3.kept.block w.heap.size hcb (by show ¬ w.heap.size = rb'; omega)).trans b2, .inr ⟨rb', cap', by omega, by omega, by rw [sortE_len hW], h3.row⟩⟩, kept_then k2 h3.kept (fun i hi => .inr (by subst hi; omega))⟩
    clear h hl hW k0 b0 f0
    have LL : Hid (∀ w1, Kept (fun _ => False) W0 w1 → w1.cell? ⟨w.heap.size, 0, none⟩ = some (.slice none 0 0) ∧ w1.frozen? ⟨w.heap.size, 0, none⟩ = false ∧ w1.heap[w.heap.size]? = some (.cells #[.slice none 0 0] 104 (0, 0))) := L1
    have TT := Lib.hid T
    clear L1 T
    generalize R.length = n at *
    go_enter Try.func51, Try.ntmps51
    go_wp2_with (first | (go_at_call 74; (try rw [hW0]); (with_reducible refine C1.out.mono ?_); rintro e w1 ⟨rb', cap', rfl, hT⟩; have l1 := (LL.out w1 hT.2.2).1; have l2 := (LL.out w1 hT.2.2).2.1; have l3 := (TT.out rb' cap' w1 hT).1; have C2 := (TT.out rb' cap' w1 hT).2; clear hT) | (go_at_call 75; (with_reducible refine C2.out.mono ?_); rintro e W3 ⟨rfl, h3⟩))
    go_ret
    exact ⟨rfl, h3⟩
end Go.Proofs.Ytcipilggddpnpaa.K
