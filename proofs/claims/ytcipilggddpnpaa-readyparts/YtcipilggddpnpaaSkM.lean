/-
  The iterator that All hands back, at keys: it hands out the entries of its row in their order.
-/
import Derived.OwnWalkIn
import Derived.TacticsInMore
import Derived.LoopNIn
import Derived.LoopIn
import Derived.Test.YtcipilggddpnpaaRng
import Derived.Test.YtcipilggddpnpaaSkL
namespace Go.Proofs.Ytcipilggddpnpaa.K
open Go.RowKit Go.Sort Go.Shelf Go.Maps
set_option linter.unusedVariables false
set_option linter.unusedSimpArgs false
attribute [local go_sem] Oper.semAt_some

/-- Blocks c and b lie as they lay. -/
def Pair2 (c b : Nat) (A B : World) : Prop := B.heap[c]? = A.heap[c]? ∧ B.heap[b]? = A.heap[b]?
theorem Pair2.refl (c b : Nat) (A : World) : Pair2 c b A A := ⟨rfl, rfl⟩
theorem Pair2.trans {c b : Nat} {A B C : World} (h : Pair2 c b A B) (k : Pair2 c b B C) : Pair2 c b A C := ⟨k.1.trans h.1, k.2.trans h.2⟩
theorem Pair2.put {c b B : Nat} (hc : c < B) (hb : b < B) (W : World) (l : Nat) (o o' : Obj) (hl : B ≤ l) (_ : W.heap[l]? = some o) (_ : o.isCells = false) : Pair2 c b W (W.putObj l o') :=
  ⟨World.putObj_heap_other (by omega), World.putObj_heap_other (by omega)⟩
theorem lt_is {A B : World} {c : Nat} (h : B.heap[c]? = A.heap[c]?) (hc : c < A.heap.size) : c < B.heap.size := by
  rw [Array.getElem?_eq_getElem hc] at h
  exact (Array.getElem?_eq_some_iff.1 h).1

/-- What yield is handed in round k. -/
def enN (S : List Ent) (k : Nat) : Array Value := #[.int .i64 (rid S k), .agg #[.int .i64 (rky S k).1, .int .i64 (rky S k).2]]

set_option maxRecDepth 100000 in
set_option maxHeartbeats 4000000 in
theorem all1_nth (c rb cap : Nat) (S : List Ent) (hlen : S.length ≤ 1099511627776) (l : Nat) (J Jx : Nat → World → Prop)
    (W : World) (hc : c < W.heap.size) (hb : rb < W.heap.size) (hJ : AbidesFrom W.heap.size J)
    (hY : ∀ k W1, k < S.length → J k W1 → YieldAt Fence.wide 8 Try.prog l (enN S k) W1 fun e W' => (e = .returned (.bool true) ∧ J (k + 1) W' ∧ Pair2 c rb W1 W') ∨ (e = .returned (.bool false) ∧ Jx k W'))
    (hcell : W.heap[c]? = some (.cells #[.slice (some ⟨rb, 0, none⟩) S.length cap] 104 (0, 0))) (hrow : RowAt W rb cap S) (h0 : J 0 W) :
    CallsIn Fence.wide 9 Try.prog 77 #[.func (.yield l) #[] #[], .pointer (some ⟨c, 0, none⟩)] W fun e W' => (∃ v, e = .returned v) ∧ (J S.length W' ∨ ∃ k, k < S.length ∧ Jx k W') := by
  have hcc : W.cell? ⟨c, 0, none⟩ = some (.slice (some ⟨rb, 0, none⟩) S.length cap) := by simp [World.cell?, hcell]
  obtain ⟨len, hL⟩ : ∃ len, S.length = len := ⟨_, rfl⟩
  have HR := Lib.hid hrow
  have HL := Lib.hid hL
  rw [hL] at hcc hlen hY ⊢
  clear hcell hrow hL
  refine callsIn_of_wp Try.func77 rfl trivial ?_ rfl
  simp only [Try.ntmps77, List.size_toArray, List.length_cons, List.length_nil, Nat.reduceAdd, Nat.reduceSub, Array.replicate_succ, Array.replicate_zero, List.push_toArray, List.append_toArray, List.nil_append, List.cons_append]
  gi_wp2
  gi_loopw [7] (fun i wr => ∃ k : Nat, k ≤ len ∧ i = .int .i64 k ∧ Hid (J k wr ∧ Pair2 c rb W wr)) (fun i _ => len - (intOf i).toNat)
  case atStart => exact ⟨0, Nat.zero_le _, rfl, h0, Pair2.refl _ _ _⟩
  case round =>
    obtain ⟨k, hk, rfl, HK⟩ := hrel
    by_cases hlt : k < len
    · have hks : k < S.length := by rw [HL.out]; exact hlt
      have hrk := HR.out.kept HK.out.2.2
      have e1 := hrk.cell0 hks
      have e2 := hrk.cell1 hks
      have e3 := hrk.cell2 hks
      have p1 : (k : Int) < (len : Int) := by omega
      have hJ1 := hJ k wr (wr.alloc (.cells #[.int .i64 (rid S k), .int .i64 (rky S k).1, .int .i64 (rky S k).2] 110)) none HK.out.1 (World.grownBy_alloc _ _ none) (fun r e => by cases e)
      obtain ⟨fn, tmps, assign, body, hy, hR⟩ := hY k _ hlt hJ1
      unfold enN at hy
      have HA : Hid (Pair2 c rb wr (wr.alloc (.cells #[.int .i64 (rid S k), .int .i64 (rky S k).1, .int .i64 (rky S k).2] 110))) := by
        exact ⟨Below.heap_alloc _ _ _ (lt_is HK.out.2.1 hc), Below.heap_alloc _ _ _ (lt_is HK.out.2.2 hb)⟩
      clear hJ1 hY
      generalize rid S k = x1 at *
      generalize (rky S k).1 = x2 at *
      generalize (rky S k).2 = x3 at *
      gi_wp2
      refine hR.mono ?_
      rintro e W3 (⟨rfl, hJ3, hk3⟩ | ⟨rfl, hJx3⟩)
      · gi_wp2
        go_roundw
        case rel => exact ⟨k + 1, by omega, by go_num, (show Hid _ from ⟨hJ3, HK.out.2.trans (HA.out.trans hk3)⟩)⟩
        case measure => simp [intOf]; omega
      · gi_wp2
        refine bodyPost_ret (results_none rfl _ _ _) rfl ?_
        exact ⟨⟨_, rfl⟩, .inr ⟨k, hlt, hJx3⟩⟩
    · obtain rfl : k = len := by omega
      gi_wp2
      go_end0
      exact ⟨⟨_, rfl⟩, .inl HK.out.1⟩

set_option maxRecDepth 100000 in
set_option maxHeartbeats 1000000 in
/-- .. where there is no row: no round. -/
theorem all1_nth_nil (l c : Nat) (J : Nat → World → Prop) (W : World) (hc : W.cell? ⟨c, 0, none⟩ = some (.slice none 0 0)) (h0 : J 0 W) :
    CallsIn Fence.wide 9 Try.prog 77 #[.func (.yield l) #[] #[], .pointer (some ⟨c, 0, none⟩)] W fun e W' => (∃ v, e = .returned v) ∧ J 0 W' := by
  refine callsIn_of_wp Try.func77 rfl trivial ?_ rfl
  simp only [Try.ntmps77, List.size_toArray, List.length_cons, List.length_nil, Nat.reduceAdd, Nat.reduceSub, Array.replicate_succ, Array.replicate_zero, List.push_toArray, List.append_toArray, List.nil_append, List.cons_append]
  gi_wp2
  gi_loopw [7] (fun i wr => i = .int .i64 0 ∧ J 0 wr ∧ wr = W) (fun _ _ => 0)
  case atStart => exact ⟨rfl, h0, rfl⟩
  case round =>
    obtain ⟨rfl, hJs, rfl⟩ := hrel
    gi_wp2
    go_end0
    exact ⟨⟨_, rfl⟩, hJs⟩

/-- All's iterator, for a range over it, in whatever world has grown from w. -/
theorem all_nth (B c : Nat) (S : List Ent) (hlen : S.length ≤ 1099511627776) (w : World) (h : SeqAt B c S w) :
    ∃ rb, B ≤ rb ∧ rb < w.heap.size ∧ c < w.heap.size ∧ SeqNth Try.prog 77 #[.pointer (some ⟨c, 0, none⟩)] (enN S) (Pair2 c rb) S.length w := by
  obtain ⟨hB, rv, hcell, hrv⟩ := h
  have hc : c < w.heap.size := (Array.getElem?_eq_some_iff.1 hcell).1
  rcases hrv with ⟨rfl, rfl⟩ | ⟨rb, cap, hBr, hne, rfl, hrow⟩
  · refine ⟨c, hB, hc, hc, fun l J Jx W hW hJ hJx hY h0 => ?_⟩
    have hcW := (hW.block c hc).trans hcell
    exact (all1_nth_nil l c J W (by simp [World.cell?, hcW]) h0).mono fun e W' ⟨he, hj⟩ => ⟨he, .inl hj⟩
  · refine ⟨rb, hBr, hrow.lt, hc, fun l J Jx W hW hJ hJx hY h0 => ?_⟩
    have hcW := (hW.block c hc).trans hcell
    exact all1_nth c rb cap S hlen l J Jx W (lt_is (hW.block c hc) hc) (lt_is (hW.block rb hrow.lt) hrow.lt) hJ hY hcW (hrow.kept (hW.block rb hrow.lt)) h0
end Go.Proofs.Ytcipilggddpnpaa.K
