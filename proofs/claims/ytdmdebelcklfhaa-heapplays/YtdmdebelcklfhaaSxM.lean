/-
  The iterator that All hands back, as a contract for whatever loop goes through it.
-/
import Derived.RangeFuncFrom
import Derived.RangeFuncBound
import Derived.RangeFuncCalls
import Derived.RangeFuncLeaves
import Derived.RangeFuncKeeps
import Derived.OwnWalkIn
import Derived.TacticsInMore
import Derived.LoopNIn
import Derived.LoopIn
import Derived.Test.YtdmdebelcklfhaaSxL
namespace Go.Proofs.Ytdmdebelcklfhaa
open Go.RowKit Go.Sort Go.Shelf Go.Maps
set_option linter.unusedVariables false
set_option linter.unusedSimpArgs false
attribute [local go_sem] Oper.semAt_some

/-- An entry of S, with its place. -/
abbrev Mem (S : List Ent) := { p : Nat × Ent // S[p.1]? = some p.2 }
/-- The places come as they stand. -/
def Init {S : List Ent} (pre : List (Mem S)) : Prop := pre.map (fun p => p.1.1) = List.range pre.length
theorem Init.nil {S : List Ent} : Init ([] : List (Mem S)) := rfl
theorem Init.snoc {S : List Ent} {pre : List (Mem S)} (h : Init pre) (x : Mem S) (hx : x.1.1 = pre.length) : Init (pre ++ [x]) := by
  unfold Init at *
  simp [h, hx, List.range_succ]
/-- Blocks c and b lie as they lay. -/
def Same2 (c b : Nat) (A B : World) : Prop := B.heap[c]? = A.heap[c]? ∧ B.heap[b]? = A.heap[b]?
theorem Same2.trans {c b : Nat} {A B C : World} (h : Same2 c b A B) (k : Same2 c b B C) : Same2 c b A C := ⟨k.1.trans h.1, k.2.trans h.2⟩

theorem lt_same {A B : World} {c : Nat} (h : B.heap[c]? = A.heap[c]?) (hc : c < A.heap.size) : c < B.heap.size := by
  rw [Array.getElem?_eq_getElem hc] at h
  exact (Array.getElem?_eq_some_iff.1 h).1

set_option maxRecDepth 100000 in
set_option maxHeartbeats 4000000 in
theorem all1_in (F : Fence) (n : Nat) (h : F.fn 53) (hro : F.round = none) (hn : 1 ≤ n) (l c rb cap : Nat) (S : List Ent) (hlen : S.length ≤ 1099511627776) (J Jx : List (Mem S) → World → Prop)
    (W : World) (hc : c < W.heap.size) (hb : rb < W.heap.size) (hJ : AbidesFrom W.heap.size J)
    (hY : ∀ pre x W, J pre W → pre.length < S.length → YieldAt F (n - 1) Try.prog l #[.int .i64 x.1.2.1, .int .i64 x.1.2.2] W fun e W' =>
      (e = .returned (.bool true) ∧ J (pre ++ [x]) W' ∧ Same2 c rb W W') ∨ (e = .returned (.bool false) ∧ Jx (pre ++ [x]) W'))
    (hcell : W.heap[c]? = some (.cells #[.slice (some ⟨rb, 0, none⟩) S.length cap] 79 (0, 0))) (hrow : RowAt W rb cap S) (h0 : J [] W) :
    CallsIn F n Try.prog 53 #[.func (.yield l) #[] #[], .pointer (some ⟨c, 0, none⟩)] W fun e W' => (∃ v, e = .returned v) ∧
      ((∃ ys, (ys.length = S.length ∧ Init ys) ∧ J ys W') ∨ (∃ pre, Init pre ∧ Jx pre W')) := by
  have hcc : W.cell? ⟨c, 0, none⟩ = some (.slice (some ⟨rb, 0, none⟩) S.length cap) := by simp [World.cell?, hcell]
  obtain ⟨len, hL⟩ : ∃ len, S.length = len := ⟨_, rfl⟩
  have HR := Lib.hid hrow
  have HL := Lib.hid hL
  rw [hL] at hcc hlen hY
  clear hcell hrow hL
  refine callsIn_of_wp Try.func53 rfl h ?_ hro
  simp only [Try.ntmps53, List.size_toArray, List.length_cons, List.length_nil, Nat.reduceAdd, Nat.reduceSub, Array.replicate_succ, Array.replicate_zero, List.push_toArray, List.append_toArray, List.nil_append, List.cons_append]
  gi_wp2
  gi_loopw [7] (fun i wr => ∃ (k : Nat) (pre : List (Mem S)), k ≤ len ∧ i = .int .i64 k ∧ Hid (pre.length = k ∧ Init pre ∧ J pre wr ∧ Same2 c rb W wr))
    (fun i _ => len - (intOf i).toNat)
  case atStart => exact ⟨0, [], Nat.zero_le _, rfl, rfl, Init.nil, h0, ⟨rfl, rfl⟩⟩
  case round =>
    obtain ⟨k, pre, hk, rfl, HK⟩ := hrel
    by_cases hlt : k < len
    · have hks : k < S.length := by rw [HL.out]; exact hlt
      have hrk := HR.out.kept HK.out.2.2.2.2
      have e1 := hrk.cell0 hks
      have e2 := hrk.cell1 hks
      have p1 : (k : Int) < (len : Int) := by omega
      obtain ⟨x, hx1, hx2, hxk⟩ : ∃ x : Mem S, x.1.2.1 = rid S k ∧ x.1.2.2 = rky S k ∧ x.1.1 = k := ⟨⟨(k, S.getD k (0, 0)), by rw [List.getD_eq_getElem?_getD, List.getElem?_eq_getElem hks]; rfl⟩, rfl, rfl, rfl⟩
      have hJ1 := hJ pre wr (wr.alloc (.cells #[.int .i64 (rid S k), .int .i64 (rky S k)] 87)) none HK.out.2.2.1 (World.grownBy_alloc _ _ none) (fun r e => by cases e)
      obtain ⟨fn, tmps, assign, body, hy, hR⟩ := hY pre x _ hJ1 (by rw [HK.out.1]; exact hlt)
      rw [hx1, hx2] at hy
      have HX : Hid (x.1.1 = pre.length) := by rw [hxk]; exact HK.out.1.symm
      have HA : Hid (Same2 c rb wr (wr.alloc (.cells #[.int .i64 (rid S k), .int .i64 (rky S k)] 87))) := by
        exact ⟨Below.heap_alloc _ _ _ (lt_same HK.out.2.2.2.1 hc), Below.heap_alloc _ _ _ (lt_same HK.out.2.2.2.2 hb)⟩
      clear hJ1 hx1 hx2 hxk hY
      generalize rid S k = x1 at *
      generalize rky S k = x2 at *
      gi_wp2
      refine hR.mono ?_
      rintro e W3 (⟨rfl, hJ3, hk3⟩ | ⟨rfl, hJx3⟩)
      · gi_wp2
        go_roundw
        case rel => exact ⟨k + 1, pre ++ [x], by omega, by go_num, (show Hid _ from ⟨by simp [HK.out.1], HK.out.2.1.snoc x HX.out, hJ3, HK.out.2.2.2.trans (HA.out.trans hk3)⟩)⟩
        case measure => simp [intOf]; omega
      · gi_wp2
        refine bodyPost_ret (results_none rfl _ _ _) rfl ?_
        exact ⟨⟨_, rfl⟩, .inr ⟨_, HK.out.2.1.snoc x HX.out, hJx3⟩⟩
    · obtain rfl : k = len := by omega
      gi_wp2
      go_end0
      exact ⟨⟨_, rfl⟩, .inl ⟨pre, ⟨by rw [HL.out]; exact HK.out.1, HK.out.2.1⟩, HK.out.2.2.1⟩⟩

set_option maxRecDepth 100000 in
set_option maxHeartbeats 1000000 in
/-- .. where there is no row: no round. -/
theorem all1_nil_in (F : Fence) (n : Nat) (h : F.fn 53) (hro : F.round = none) (l c : Nat) {α : Type} (J : List α → World → Prop) (W : World) (hc : W.cell? ⟨c, 0, none⟩ = some (.slice none 0 0)) (h0 : J [] W) :
    CallsIn F n Try.prog 53 #[.func (.yield l) #[] #[], .pointer (some ⟨c, 0, none⟩)] W fun e W' => (∃ v, e = .returned v) ∧ J [] W' := by
  refine callsIn_of_wp Try.func53 rfl h ?_ hro
  simp only [Try.ntmps53, List.size_toArray, List.length_cons, List.length_nil, Nat.reduceAdd, Nat.reduceSub, Array.replicate_succ, Array.replicate_zero, List.push_toArray, List.append_toArray, List.nil_append, List.cons_append]
  gi_wp2
  gi_loopw [7] (fun i wr => i = .int .i64 0 ∧ J [] wr ∧ wr = W) (fun _ _ => 0)
  case atStart => exact ⟨rfl, h0, rfl⟩
  case round =>
    obtain ⟨rfl, hJs, rfl⟩ := hrel
    gi_wp2
    go_end0
    exact ⟨⟨_, rfl⟩, hJs⟩

/-- What yield is handed. -/
def enM {S : List Ent} (x : Mem S) : Array Value := #[.int .i64 x.1.2.1, .int .i64 x.1.2.2]

/-- All's iterator, for a range over it: the entries of S in their order, whatever the body does that leaves the two blocks alone. -/
theorem all_stops (n : Nat) (hn : 1 ≤ n) (B c : Nat) (S : List Ent) (hlen : S.length ≤ 1099511627776) (w : World) (h : SeqAt B c S w) :
    ∃ rb, B ≤ rb ∧ rb < w.heap.size ∧ SeqStopsK Fence.wide n Try.prog 53 #[.pointer (some ⟨c, 0, none⟩)] (enM (S := S)) (Same2 c rb) (fun ys => ys.length = S.length ∧ Init ys) (fun pre => Init pre) S.length w := by
  obtain ⟨hB, rv, hcell, hrv⟩ := h
  have hc : c < w.heap.size := (Array.getElem?_eq_some_iff.1 hcell).1
  rcases hrv with ⟨rfl, rfl⟩ | ⟨rb, cap, hBr, hne, rfl, hrow⟩
  · refine ⟨c, hB, hc, fun l J Jx W hW hJ hJx hY h0 => ?_⟩
    have hcW := (hW.block c hc).trans hcell
    exact (all1_nil_in Fence.wide n trivial rfl l c J W (by simp [World.cell?, hcW]) h0).mono fun e W' ⟨he, hj⟩ => ⟨he, .inl ⟨[], ⟨rfl, Init.nil⟩, hj⟩⟩
  · refine ⟨rb, hBr, hrow.lt, fun l J Jx W hW hJ hJx hY h0 => ?_⟩
    have hcW := (hW.block c hc).trans hcell
    exact all1_in Fence.wide n trivial rfl hn l c rb cap S hlen J Jx W (lt_same (hW.block c hc) hc) (lt_same (hW.block rb hrow.lt) hrow.lt) hJ hY hcW (hrow.kept (hW.block rb hrow.lt)) h0
end Go.Proofs.Ytdmdebelcklfhaa
