/-
  admit: what servers ask for together (pure); slices of params; the iterator asks.
-/
import Derived.Test.YtfjepkakimhbbaaAa
import Derived.Test.YtfjepkakimhbbaaRn2
import Derived.Test.YtfjepkakimhbbaaLv
import Derived.OwnWalkIn
import Derived.TacticsInMore
import Derived.LoopNIn
import Derived.LoopIn
namespace Go.Proofs.Ytfjepkakimhbbaa
open Go.RowKit Go.Sort Go.Shelf Go.Maps
set_option linter.unusedVariables false
set_option linter.unusedSimpArgs false
attribute [local go_sem] Oper.semAt_some

/-- Params: Q, D, T. -/
abbrev Pa := Int × Int × Int
abbrev p0 : Pa := (0, 0, 0)
/-- Params that may be. -/
def okB (p : Pa) : Bool := checkE p.1 p.2.1 p.2.2 == 0
theorem okB_may {p : Pa} (h : okB p = true) : 1 ≤ p.1 ∧ p.1 ≤ p.2.1 ∧ p.2.1 ≤ p.2.2 ∧ p.2.2 ≤ 1073741824 := by
  unfold okB checkE at h
  split at h
  · cases h
  · omega
theorem okB_of {p : Pa} (h : 1 ≤ p.1 ∧ p.1 ≤ p.2.1 ∧ p.2.1 ≤ p.2.2 ∧ p.2.2 ≤ 1073741824) : okB p = true := by
  unfold okB checkE
  rw [if_neg (by omega)]
  rfl
/-- What a server asks for. -/
def upA (h : Bool) (p : Pa) : Int := (askR h p).1
theorem ask_ok {h : Bool} {p : Pa} (hp : okB p = true) : askR h p = (upA h p, 0) ∧ (1 ≤ upA h p ∧ upA h p ≤ 1048576) := by
  have hm := okB_may hp
  have hc : checkE p.1 p.2.1 p.2.2 = 0 := by simpa [okB] using hp
  obtain ⟨x, hx, hx1, hx2⟩ : ∃ x, (if h = true then p.2.1 else p.2.2) = x ∧ p.1 ≤ x ∧ x ≤ 1073741824 := ⟨_, rfl, by split <;> omega, by split <;> omega⟩
  have e : askR h p = divR p.1 1048576 x true := by
    unfold askR useR
    rw [if_pos hc, hx]
  obtain ⟨q, hq⟩ := Int.eq_ofNat_of_zero_le (by omega : 0 ≤ p.1)
  obtain ⟨y, hy⟩ := Int.eq_ofNat_of_zero_le (by omega : 0 ≤ x)
  rw [hq, hy] at e
  have h0 : 0 < y := by omega
  have u := divQ_up (a := q) (b := 1048576) (c := y) h0
  have hn : divQ q 1048576 y true ≤ 1048576 := by
    have h1 : q * 1048576 ≤ y * 1048576 := Nat.mul_le_mul_right _ (by omega)
    have h2 : divQ q 1048576 y true * y < 1048577 * y := by omega
    have := Nat.lt_of_mul_lt_mul_right h2
    omega
  have hn1 : 1 ≤ divQ q 1048576 y true := by
    rcases Nat.eq_zero_or_pos (divQ q 1048576 y true) with h3 | h3
    · rw [h3] at u
      omega
    · exact h3
  have d := divR_ok (a := q) (b := 1048576) (c := y) (up := true) h0 (by omega)
  rw [show ((1048576 : Int)) = ((1048576 : Nat) : Int) from rfl, d] at e
  unfold upA
  rw [e]
  exact ⟨rfl, by show (1 : Int) ≤ ((divQ q 1048576 y true : Nat) : Int); omega, by show ((divQ q 1048576 y true : Nat) : Int) ≤ 1048576; omega⟩
theorem ask_bad {h : Bool} {p : Pa} (hp : okB p = false) : askR h p = (0, 1) := by
  have hc : ¬ checkE p.1 p.2.1 p.2.2 = 0 := by simpa [okB] using hp
  unfold askR useR
  rw [if_neg hc]

def allB (L : List Pa) : Bool := L.all okB
def sumU (h : Bool) (L : List Pa) : Int := (L.map (upA h)).sum
def maxU (h : Bool) (L : List Pa) : Int := (L.map (upA h)).foldl max 0
theorem allB_nil : allB [] = true := rfl
theorem sumU_nil (h : Bool) : sumU h [] = 0 := rfl
theorem maxU_nil (h : Bool) : maxU h [] = 0 := rfl
theorem allB_snoc (L : List Pa) (p : Pa) : allB (L ++ [p]) = (allB L && okB p) := by simp [allB]
theorem sumU_snoc (h : Bool) (L : List Pa) (p : Pa) : sumU h (L ++ [p]) = sumU h L + upA h p := by simp [sumU]
theorem maxU_snoc (h : Bool) (L : List Pa) (p : Pa) : maxU h (L ++ [p]) = max (maxU h L) (upA h p) := by simp [maxU]
theorem allB_app (L M : List Pa) : allB (L ++ M) = (allB L && allB M) := by simp [allB]
theorem allB_mem {L : List Pa} (h : allB L = true) : ∀ p ∈ L, okB p = true := by simpa [allB] using h
theorem foldl_max (l : List Int) : ∀ a b : Int, l.foldl max (max a b) = max a (l.foldl max b) := by
  induction l with
  | nil => intro a b; rfl
  | cons x l ih =>
    intro a b
    simp only [List.foldl_cons]
    rw [show max (max a b) x = max a (max b x) by omega]
    exact ih a (max b x)
theorem sumU_cons (h : Bool) (p : Pa) (L : List Pa) : sumU h (p :: L) = upA h p + sumU h L := by simp [sumU]
theorem maxU_cons (h : Bool) (p : Pa) (L : List Pa) : maxU h (p :: L) = max (upA h p) (maxU h L) := by
  unfold maxU
  rw [List.map_cons, List.foldl_cons, show max (0 : Int) (upA h p) = max (upA h p) 0 by omega, foldl_max]
theorem allB_cons (p : Pa) (L : List Pa) : allB (p :: L) = (okB p && allB L) := by simp [allB]
theorem uIn (h : Bool) : ∀ {L : List Pa}, allB L = true → (0 ≤ sumU h L ∧ sumU h L ≤ 1048576 * L.length) ∧ (0 ≤ maxU h L ∧ maxU h L ≤ 1048576) ∧ maxU h L ≤ sumU h L
  | [], _ => by rw [sumU_nil, maxU_nil]; simp
  | p :: L, hL => by
    rw [allB_cons, Bool.and_eq_true] at hL
    have h1 := (ask_ok (h := h) hL.1).2
    have h2 := uIn h hL.2
    rw [sumU_cons, maxU_cons]
    simp only [List.length_cons]
    omega
/-- What Load answers. -/
def loadR (h : Bool) (L : List Pa) : Int × Int × Int := if allB L = true then (sumU h L, maxU h L, 0) else (0, 0, 1)

theorem take_snoc {L : List Pa} {k : Nat} (hk : k < L.length) : L.take (k + 1) = L.take k ++ [L.getD k p0] := by
  rw [List.take_add_one, List.getD_eq_getElem?_getD, List.getElem?_eq_getElem hk]
  simp
theorem allB_take {L : List Pa} (k : Nat) (h : allB L = true) : allB (L.take k) = true := by
  have := allB_mem h
  simp only [allB, List.all_eq_true]
  exact fun p hp => this p (List.mem_of_mem_take hp)
theorem allB_bad {L : List Pa} {k : Nat} (hk : k < L.length) (h : okB (L.getD k p0) = false) : allB L = false := by
  rcases Bool.eq_false_or_eq_true (allB L) with e | e
  · have := allB_mem e (L.getD k p0) (by rw [List.getD_eq_getElem?_getD, List.getElem?_eq_getElem hk]; exact List.getElem_mem _)
    rw [this] at h
    cases h
  · exact e

/-- The params L lie at a. -/
def PAt (w : World) (a : Option Addr) (L : List Pa) : Prop :=
  L.length = 0 ∨ ∃ g o, a = some ⟨g, o, none⟩ ∧ g < w.heap.size ∧ ∀ i, i < L.length → (w.cell? ⟨g, o + i * 3, none⟩ = some (.int .i64 (L.getD i p0).1) ∧ w.cell? ⟨g, o + i * 3 + 1, none⟩ = some (.int .i64 (L.getD i p0).2.1) ∧ w.cell? ⟨g, o + i * 3 + 2, none⟩ = some (.int .i64 (L.getD i p0).2.2)) ∧ Fit (L.getD i p0)
theorem PAt.next {w w' : World} {a : Option Addr} {L : List Pa} (h : PAt w a L) (b : Below w.heap.size w w') : PAt w' a L := by
  rcases h with h | ⟨g, o, rfl, hg, hc⟩
  · exact .inl h
  · refine .inr ⟨g, o, rfl, Nat.lt_of_lt_of_le hg b.size, fun i hi => ?_⟩
    obtain ⟨⟨h1, h2, h3⟩, h4⟩ := hc i hi
    exact ⟨⟨(b.cell (p := ⟨g, o + i * 3, none⟩) hg).trans h1, (b.cell (p := ⟨g, o + i * 3 + 1, none⟩) hg).trans h2, (b.cell (p := ⟨g, o + i * 3 + 2, none⟩) hg).trans h3⟩, h4⟩

/-- Blocks b and c lie as they lay. -/
def Two2 (c b : Nat) (A B : World) : Prop := B.heap[c]? = A.heap[c]? ∧ B.heap[b]? = A.heap[b]?
theorem Two2.refl (c b : Nat) (A : World) : Two2 c b A A := ⟨rfl, rfl⟩
theorem Two2.trans {c b : Nat} {A B C : World} (h : Two2 c b A B) (k : Two2 c b B C) : Two2 c b A C := ⟨k.1.trans h.1, k.2.trans h.2⟩
theorem Two2.put {c b B : Nat} (hc : c < B) (hb : b < B) (W : World) (l : Nat) (o o' : Obj) (hl : B ≤ l) (_ : W.heap[l]? = some o) (_ : o.isCells = false) : Two2 c b W (W.putObj l o') :=
  ⟨World.putObj_heap_other (by omega), World.putObj_heap_other (by omega)⟩
theorem Two2.below {c b : Nat} {A B : World} (h : Below A.heap.size A B) (hc : c < A.heap.size) (hb : b < A.heap.size) : Two2 c b A B := ⟨h.block c hc, h.block b hb⟩
theorem lt_of_same {A B : World} {c : Nat} (h : B.heap[c]? = A.heap[c]?) (hc : c < A.heap.size) : c < B.heap.size := by
  rw [Array.getElem?_eq_getElem hc] at h
  exact (Array.getElem?_eq_some_iff.1 h).1
theorem grown_of {A B : World} (h : Below A.heap.size A B) : A.grownBy B none := ⟨h.os, h.tape, h.output, h.size, fun k hk _ => h.block k hk⟩

/-- What yield is handed in round k. -/
def enA (h : Bool) (L : List Pa) (k : Nat) : Array Value := #[.int .i64 (askR h (L.getD k p0)).1, .int .i64 (askR h (L.getD k p0)).2]

set_option maxRecDepth 100000 in
set_option maxHeartbeats 4000000 in
theorem asks1_nth (h : Bool) (c k0 : Int) (sb rb g o cap : Nat) (L : List Pa) (hlen : L.length ≤ 1000) (l : Nat) (J Jx : Nat → World → Prop)
    (W : World) (hJ : AbidesFrom W.heap.size J)
    (hY : ∀ k W1, k < L.length → J k W1 → YieldAt Fence.wide 8 Try.prog l (enA h L k) W1 fun e W' => (e = .returned (.bool true) ∧ J (k + 1) W' ∧ Two2 rb g W1 W') ∨ (e = .returned (.bool false) ∧ Jx k W'))
    (hs : W.cell? ⟨sb, 0, none⟩ = some (.slice (some ⟨g, o, none⟩) L.length cap)) (hr : Box3 W rb 23 (.bool h) (.int .i64 c) (.int .i64 k0)) (hg : g < W.heap.size)
    (hc : ∀ i, i < L.length → (W.cell? ⟨g, o + i * 3, none⟩ = some (.int .i64 (L.getD i p0).1) ∧ W.cell? ⟨g, o + i * 3 + 1, none⟩ = some (.int .i64 (L.getD i p0).2.1) ∧ W.cell? ⟨g, o + i * 3 + 2, none⟩ = some (.int .i64 (L.getD i p0).2.2)) ∧ Fit (L.getD i p0)) (h0 : J 0 W) :
    CallsIn Fence.wide 9 Try.prog 34 #[.func (.yield l) #[] #[], .pointer (some ⟨sb, 0, none⟩), .pointer (some ⟨rb, 0, none⟩)] W fun e W' => (∃ v, e = .returned v) ∧ (J L.length W' ∨ ∃ k, k < L.length ∧ Jx k W') := by
  obtain ⟨len, hL⟩ : ∃ len, L.length = len := ⟨_, rfl⟩
  have HC := Lib.hid hc
  have HL := Lib.hid hL
  have HR := Lib.hid hr
  rw [hL] at hs hlen hY ⊢
  clear hc hL hr
  refine callsIn_of_wp Try.func34 rfl trivial ?_ rfl
  simp only [Try.ntmps34, List.size_toArray, List.length_cons, List.length_nil, Nat.reduceAdd, Nat.reduceSub, Array.replicate_succ, Array.replicate_zero, List.push_toArray, List.append_toArray, List.nil_append, List.cons_append]
  gi_wp2
  gi_loopw [8] (fun i wr => ∃ k : Nat, k ≤ len ∧ i = .int .i64 k ∧ Hid (J k wr ∧ Two2 rb g W wr)) (fun i _ => len - (intOf i).toNat)
  case atStart => exact ⟨0, Nat.zero_le _, rfl, h0, Two2.refl _ _ _⟩
  case round =>
    obtain ⟨k, hk, rfl, HK⟩ := hrel
    by_cases hlt : k < len
    · have hks : k < L.length := by rw [HL.out]; exact hlt
      obtain ⟨⟨e1, e2, e3⟩, hf⟩ := HC.out k hks
      have d1 : wr.cell? ⟨g, o + k * 3, none⟩ = some (.int .i64 (L.getD k p0).1) := (World.cell?_of_block HK.out.2.2).trans e1
      have d2 : wr.cell? ⟨g, o + k * 3 + 1, none⟩ = some (.int .i64 (L.getD k p0).2.1) := (World.cell?_of_block HK.out.2.2).trans e2
      have d3 : wr.cell? ⟨g, o + k * 3 + 2, none⟩ = some (.int .i64 (L.getD k p0).2.2) := (World.cell?_of_block HK.out.2.2).trans e3
      have q1 : (k : Int) < (len : Int) := by omega
      have CA : Hid (∀ W, Calls Try.prog 30 #[.agg #[.bool h, .int .i64 c, .int .i64 k0], .agg #[.int .i64 (L.getD k p0).1, .int .i64 (L.getD k p0).2.1, .int .i64 (L.getD k p0).2.2]] W fun e w' => e = .returned (.tuple #[.int .i64 (askR h (L.getD k p0)).1, .int .i64 (askR h (L.getD k p0)).2]) ∧ Below W.heap.size W w') := fun W => ask_any h c k0 (L.getD k p0) hf W
      obtain ⟨Wp, hWp⟩ : ∃ Wp, wr.alloc (.cells #[.int .i64 (L.getD k p0).1, .int .i64 (L.getD k p0).2.1, .int .i64 (L.getD k p0).2.2] 40) = Wp := ⟨_, rfl⟩
      have bp : Below wr.heap.size wr Wp := by rw [← hWp]; exact (Below.refl _ _).alloc (Nat.le_refl _) _
      have sp : Box3 Wp wr.heap.size 40 (.int .i64 (L.getD k p0).1) (.int .i64 (L.getD k p0).2.1) (.int .i64 (L.getD k p0).2.2) := by rw [← hWp]; exact Box3.start _ _ _ _ _
      have lt1 : rb < wr.heap.size := lt_of_same HK.out.2.1 HR.out.lt
      have lt2 : g < wr.heap.size := lt_of_same HK.out.2.2 hg
      have sr : Box3 Wp rb 23 (.bool h) (.int .i64 c) (.int .i64 k0) := (HR.out.kept HK.out.2.1).next bp lt1
      have sr0 := HR.out.kept HK.out.2.1
      have r0 := sr0.c0
      have r1 := sr0.c1
      have r2 := sr0.c2
      have HY : Hid (∀ W2, Below Wp.heap.size Wp W2 → YieldAt Fence.wide 8 Try.prog l #[.int .i64 (askR h (L.getD k p0)).1, .int .i64 (askR h (L.getD k p0)).2] W2 fun e W' => (e = .returned (.bool true) ∧ J (k + 1) W' ∧ Two2 rb g W2 W') ∨ (e = .returned (.bool false) ∧ Jx k W')) := fun W2 b2 =>
        hY k W2 hlt (hJ k wr W2 none HK.out.1 (grown_of (bp.trans (b2.mono bp.size))) (fun r e => by cases e))
      have HB : Hid (∀ W2, Below Wp.heap.size Wp W2 → Two2 rb g W W2) := fun W2 b2 => HK.out.2.trans (Two2.below (bp.trans (b2.mono bp.size)) lt1 lt2)
      have HW := Lib.hid hWp
      clear e1 e2 e3 hWp hY HC sp sr sr0 bp
      generalize askR h (L.getD k p0) = r at *
      generalize (L.getD k p0).1 = x1 at *
      generalize (L.getD k p0).2.1 = x2 at *
      generalize (L.getD k p0).2.2 = x3 at *
      gi_wp2_with fail
      rw [HW.out]
      refine ⟨trivial, ?_⟩
      (with_reducible refine (callsIn_wide.2 (CA.out _)).mono ?_)
      rintro e W2 ⟨rfl, b2⟩
      obtain ⟨fn, tmps, assign, body, hy, hR⟩ := HY.out W2 b2
      gi_wp2
      refine hR.mono ?_
      rintro e W3 (⟨rfl, hJ3, hk3⟩ | ⟨rfl, hJx3⟩)
      · gi_wp2
        go_roundw
        case rel => exact ⟨k + 1, by omega, by go_num, (show Hid _ from ⟨hJ3, (HB.out W2 b2).trans hk3⟩)⟩
        case measure => simp [intOf]; omega
      · gi_wp2
        refine bodyPost_ret (results_none rfl _ _ _) rfl ?_
        exact ⟨⟨_, rfl⟩, .inr ⟨k, hlt, hJx3⟩⟩
    · obtain rfl : k = len := by omega
      gi_wp2
      go_end0
      exact ⟨⟨_, rfl⟩, .inl HK.out.1⟩
end Go.Proofs.Ytfjepkakimhbbaa
