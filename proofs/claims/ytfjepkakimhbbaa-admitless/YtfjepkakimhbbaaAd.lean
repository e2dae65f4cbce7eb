/-
  admit.greatest: how many numbers pass, by sort.Search; the two closures that it asks.
-/
import Derived.Test.YtfjepkakimhbbaaAc
import Derived.BigQuiet
import Derived.Laws.EntriesVeiled
import Derived.Shelf.Lay
import Derived.Shelf.LaySoft
import Derived.Shelf.SlSorted.Search
namespace Go.Proofs
open Go.RowKit Go.Sort Go.Shelf Go.Maps
shelf_lay SlLaysO.n16 Slso 16 at Try as Ytfjepkakimhbbaa.laysSearch
namespace Ytfjepkakimhbbaa
set_option linter.unusedVariables false
set_option linter.unusedSimpArgs false

/-- A world that has grown. -/
structure GrB (w : World) where
  v : World
  h : Grew w v
abbrev GrowingB (w : World) (w' : World) : Prop := ∃ q : GrB w, w' = q.v
theorem growingB_drew (w : World) : GrowingB w { w with drawn := w.drawn + 1 } := ⟨⟨_, (Grew.refl w).drew⟩, rfl⟩
theorem region_grew {P : Program} {id : Nat} {Q : Exit → Act → World → Prop} {a : Act} {w : World} {l : List Oper} (hm : P.follows .mixedOrders = true) (hB : Region.lexB .any l.toArray = true)
    (h : wpQuiet P l.toArray (GrowingB w) (fun a' => ∀ w', GrowingB w w' → Q .normal a' w') l a) : (Code.region id l.toArray true).wp P Q a w :=
  wp_region_quiet (C := GrowingB w) hm hB (growingB_drew w) (by simpa using h)
theorem grew_call {P : Program} {f : FuncId} {args : Array Value} {w : World} {v : Value} (h : ∀ W, Grew w W → Calls P f args W fun e w' => e = .returned v ∧ Grew W w') (q : GrB w) : Calls P f args q.v fun e w' => e = .returned v ∧ GrowingB w w' :=
  (h q.v q.h).mono fun _ w' ⟨he, hb⟩ => ⟨he, ⟨w', q.h.trans hb⟩, rfl⟩

/-- How many pass, where none passes behind one that does not. -/
theorem count_is (p : Nat → Bool) : ∀ n, (∀ a b, a ≤ b → b < n → p b = true → p a = true) → (List.range n).countP p ≤ n ∧ (∀ t, t < (List.range n).countP p → p t = true) ∧ ∀ t, (List.range n).countP p ≤ t → t < n → p t = false
  | 0, _ => ⟨Nat.le_refl _, fun t h => absurd h (Nat.not_lt_zero _), fun t _ h => absurd h (Nat.not_lt_zero _)⟩
  | n + 1, h => by
    obtain ⟨h1, h2, h3⟩ := count_is p n (fun a b hab hb => h a b hab (by omega))
    rw [List.range_succ, List.countP_append]
    cases hp : p n with
    | true =>
      have hall : (List.range n).countP p = n := by
        rcases Nat.lt_or_ge ((List.range n).countP p) n with hlt | hge
        · have := h3 _ (Nat.le_refl _) hlt
          rw [h _ n (by omega) (by omega) hp] at this
          cases this
        · omega
      rw [hall]
      have e1 : List.countP p [n] = 1 := by simp [List.countP_cons, hp]
      rw [e1]
      refine ⟨Nat.le_refl _, fun t ht => h t n (by omega) (by omega) hp, fun t h4 h5 => by omega⟩
    | false =>
      have e1 : List.countP p [n] = 0 := by simp [List.countP_cons, hp]
      rw [e1, Nat.add_zero]
      refine ⟨by omega, h2, fun t h4 h5 => ?_⟩
      by_cases e : t = n
      · rw [e]; exact hp
      · exact h3 t h4 (by omega)

theorem search_any (g : Nat) (cb : Array Value) (n : Nat) (p : Nat → Bool) (w : World) (eg : ∀ args w, (callFunc g args).run Try.prog w = .ok (.enter g args) w) (hsz : n < 4611686018427387904)
    (hf : ∀ W, Grew w W → ∀ i, i < n → Calls Try.prog g (#[.int .i64 (i : Int)] ++ cb) W fun e w' => e = .returned (.bool (!p i)) ∧ Grew W w')
    (hmono : ∀ a b, a ≤ b → b < n → p b = true → p a = true) :
    Calls Try.prog 36 #[.int .i64 n, .func (.func g) #[] cb] w fun e w' => e = .returned (.int .i64 (((List.range n).countP p : Nat) : Int)) ∧ Grew w w' := by
  have h := Any.sort_Search laysSearch g cb n (fun i => !p i) w eg hsz (fun m os i hi => hf _ ⟨m, os, rfl⟩ i hi) (fun a b hab hb ha => by
    cases hpb : p b with
    | false => rfl
    | true => rw [hmono a b hab hb hpb] at ha; exact ha)
  simp only [Bool.not_not] at h
  exact h

set_option maxHeartbeats 1000000 in
theorem greatest1_any (g : Nat) (cb : Array Value) (fb : Nat) (i : Nat) (b : Bool) (W : World) (hi : i < 4611686018427387904) (eg : ∀ args w, (callFunc g args).run Try.prog w = .ok (.enter g args) w)
    (hc : W.cell? ⟨fb, 0, none⟩ = some (.func (.func g) #[] cb)) (hf : Calls Try.prog g (#[.int .i64 ((i : Int) + 1)] ++ cb) W fun e w' => e = .returned (.bool b) ∧ Grew W w') :
    Calls Try.prog 37 #[.int .i64 (i : Int), .pointer (some ⟨fb, 0, none⟩)] W fun e w' => e = .returned (.bool (!b)) ∧ Grew W w' := by
  have HF := Lib.hid hf
  have hw : IntKind.i64.wrap ((i : Int) + 1) = (i : Int) + 1 := by rw [IntKind.wrap_i64]; omega
  clear hf
  go_enter Try.func37, Try.ntmps37
  go_wp2_with (go_at_fn g; refine HF.out.mono ?_; rintro e w' ⟨rfl, hg⟩)
  go_ret
  exact ⟨rfl, hg⟩

set_option maxHeartbeats 1000000 in
theorem greatest_any (g : Nat) (cb : Array Value) (n : Nat) (p : Nat → Bool) (w : World) (eg : ∀ args w, (callFunc g args).run Try.prog w = .ok (.enter g args) w) (hsz : n < 4611686018427387904)
    (hf : ∀ W, Grew w W → ∀ i, i < n → Calls Try.prog g (#[.int .i64 ((i : Int) + 1)] ++ cb) W fun e w' => e = .returned (.bool (p i)) ∧ Grew W w')
    (hmono : ∀ a b, a ≤ b → b < n → p b = true → p a = true) :
    Calls Try.prog 28 #[.int .i64 n, .func (.func g) #[] cb] w fun e w' => e = .returned (.int .i64 (((List.range n).countP p : Nat) : Int)) ∧ Grew w w' := by
  have hmf : ∀ (fn : Fn) (first cap : Array Value) (w : World), (Instr.makeFunc fn first cap).run Try.prog w = .ok (.func fn first cap) w := fun _ _ _ _ => rfl
  obtain ⟨W0, hW0⟩ : ∃ W0, w.alloc (.cells #[.func (.func g) #[] cb] 60) = W0 := ⟨_, rfl⟩
  have g0 : Grew w W0 := by rw [← hW0]; exact (Grew.refl w).alloc _
  have c0 : W0.cell? ⟨w.heap.size, 0, none⟩ = some (.func (.func g) #[] cb) := by
    rw [← hW0]
    have := heap_alloc_new w (.cells #[.func (.func g) #[] cb] 60)
    unfold World.cell?
    rw [this]
    rfl
  have z0 : w.heap.size < W0.heap.size := by rw [← hW0]; simp
  have CS : Hid (Calls Try.prog 36 #[.int .i64 n, .func (.func 37) #[] #[.pointer (some ⟨w.heap.size, 0, none⟩)]] W0 fun e w' => e = .returned (.int .i64 (((List.range n).countP p : Nat) : Int)) ∧ Grew W0 w') :=
    search_any 37 #[.pointer (some ⟨w.heap.size, 0, none⟩)] n p W0 (enters_of Try.func37 (by kernel_rfl) rfl) hsz (fun W hW i hi =>
      greatest1_any g cb w.heap.size i (p i) W (by omega) eg ((hW.cell z0).trans c0) (hf W (g0.trans hW) i hi)) hmono
  have G0 := Lib.hid g0
  have HW := Lib.hid hW0
  clear hf hmono c0 z0 g0 hW0
  generalize (List.range n).countP p = v at *
  go_enter Try.func28, Try.ntmps28
  go_wp2_with fail
  rw [HW.out]
  refine CS.out.mono ?_
  rintro e w' ⟨rfl, hg⟩
  go_wp2
  go_ret
  exact ⟨rfl, G0.out.trans hg⟩

theorem picki_grew (h : Bool) (c k x y : Int) (w : World) :
    Calls Try.prog 35 #[ruV h c k, .int .i64 x, .int .i64 y] w fun e w' => e = .returned (.int .i64 (if h = true then x else y)) ∧ Grew w w' := by
  have B := fun o => (Grew.refl w).alloc o
  cases h with
  | true =>
    go_enter Try.func35, Try.ntmps35
    go_wp2
    go_ret
    exact ⟨rfl, B _⟩
  | false =>
    go_enter Try.func35, Try.ntmps35
    go_wp2
    go_ret
    exact ⟨rfl, B _⟩

theorem abound_grew (h : Bool) (c k m : Int) (hr : ruleE c k = 0) (m0 : 0 ≤ m) (m1 : m ≤ 1048576) (w : World) :
    Calls Try.prog 25 #[ruV h c k, .int .i64 m] w fun e w' => e = .returned (.int .i64 (boundN h c k m)) ∧ Grew w w' := by
  obtain ⟨⟨a0, a1⟩, ⟨b0, b1⟩, d0, d1⟩ := bound_in hr m0 m1
  obtain ⟨⟨c0, c1⟩, k0, k1⟩ := ruleE_may hr
  have e1 : wrap64 (k * 1048576 - wrap64 ((k - 1) * m)) = k * 1048576 - (k - 1) * m := by
    rw [wrapA (x := (k - 1) * m) (by omega) (by omega), wrapA (by omega) (by omega)]
  have e2 : wrap64 (c * k) = c * k := wrapA (by omega) (by omega)
  have C1 : Hid (∀ W, Calls Try.prog 35 #[ruV h c k, .int .i64 (k * 1048576 - (k - 1) * m), .int .i64 (c * k)] W fun e w' => e = .returned (.int .i64 (boundN h c k m)) ∧ Grew W w') := fun W => picki_grew h c k (k * 1048576 - (k - 1) * m) (c * k) W
  have E1 := Lib.hid e1
  have E2 := Lib.hid e2
  have B := fun o => (Grew.refl w).alloc o
  clear e1 e2 a0 a1 b0 b1 d0 d1
  go_enter Try.func25, Try.ntmps25
  go_wp2_with fail
  rw [E1.out, E2.out]
  refine (C1.out _).mono ?_
  rintro e w1 ⟨rfl, b1⟩
  go_wp2
  go_ret
  exact ⟨rfl, (B _).trans b1⟩

set_option maxHeartbeats 1000000 in
/-- Room's closure. -/
theorem room1_any (h : Bool) (c k s m u : Int) (sb rb mb : Nat) (hr : ruleE c k = 0) (s0 : 0 ≤ s) (s1 : s ≤ 16777216) (m0 : 0 ≤ m) (m1 : m ≤ 1048576) (u0 : 0 ≤ u) (u1 : u ≤ 1048576) (W : World)
    (hs : N1 W sb 3 s) (hm : N1 W mb 3 m) (hb : Box3 W rb 23 (.bool h) (.int .i64 c) (.int .i64 k)) :
    Calls Try.prog 29 #[.int .i64 u, .pointer (some ⟨sb, 0, none⟩), .pointer (some ⟨rb, 0, none⟩), .pointer (some ⟨mb, 0, none⟩)] W fun e w' => e = .returned (.bool (decide (s + u ≤ boundN h c k (max m u)))) ∧ Grew W w' := by
  have mx0 : 0 ≤ max m u := by omega
  have mx1 : max m u ≤ 1048576 := by omega
  have D1 : ∀ q : GrB W, Hid (Calls Try.prog 25 #[.agg #[.bool h, .int .i64 c, .int .i64 k], .int .i64 (max m u)] q.v fun e w' => e = .returned (.int .i64 (boundN h c k (max m u))) ∧ GrowingB W w') := fun q => grew_call (fun W _ => abound_grew h c k (max m u) hr mx0 mx1 W) q
  have H := Lib.hid (And.intro hs (And.intro hm hb))
  have f0 : ∀ q : GrB W, q.v.cell? ⟨rb, 0, none⟩ = some (.bool h) := fun q => (H.out.2.2.kept (q.h.block hb.lt)).c0
  have f1 : ∀ q : GrB W, q.v.cell? ⟨rb, 1, none⟩ = some (.int .i64 c) := fun q => (H.out.2.2.kept (q.h.block hb.lt)).c1
  have f2 : ∀ q : GrB W, q.v.cell? ⟨rb, 2, none⟩ = some (.int .i64 k) := fun q => (H.out.2.2.kept (q.h.block hb.lt)).c2
  have f3 : ∀ q : GrB W, q.v.cell? ⟨sb, 0, none⟩ = some (.int .i64 s) := fun q => (H.out.1.kept (q.h.block hs.lt)).cell
  have f4 : ∀ q : GrB W, q.v.cell? ⟨mb, 0, none⟩ = some (.int .i64 m) := fun q => (H.out.2.1.kept (q.h.block hm.lt)).cell
  have hw : wrap64 (s + u) = s + u := wrapA (by omega) (by omega)
  have hw2 : IntKind.i64.wrap (s + u) = s + u := by rw [IntKind.wrap_i64]; omega
  haveI : Inhabited (GrB W) := ⟨⟨W, Grew.refl _⟩⟩
  clear hs hm hb H
  generalize boundN h c k (max m u) = B at *
  go_enter Try.func29, Try.ntmps29
  go_wp2_with fail
  refine region_grew mixedT (by kernel_rfl) ?_
  repeat (go_big_quiet_step (first | (go_at_call 25; (with_reducible exact (D1 _).out))))
  refine wpQuiet_nil ?_
  rintro _ ⟨q2, rfl⟩
  go_wp2_with fail
  go_ret
  exact ⟨rfl, q2.h⟩
end Ytfjepkakimhbbaa
end Go.Proofs
