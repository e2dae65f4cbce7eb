/-
  A range over a function, round by round: the iterator hands out its N things in their order, so that a round knows which one it has. And how a function leaves that has gone through such loops.
-/
import Derived.RangeFuncWrites
import Derived.RangeFuncLeaves
import Derived.RangeFuncCalls
import Derived.Test.YtfjepkakimhbbaaHpB
namespace Go.Proofs.Ytfjepkakimhbbaa
open Go.RowKit
set_option linter.unusedVariables false

/-- An iterator that hands out encs 0, .., encs (N - 1), in this order, to whatever body keeps Kp. -/
def SeqNth (P : Program) (gf : Nat) (lb : Array Value) (encs : Nat → Array Value) (Kp : World → World → Prop) (N : Nat) (w : World) : Prop :=
  ∀ (l : Nat) (J Jx : Nat → World → Prop) (W : World), Below w.heap.size w W → AbidesFrom W.heap.size J → AbidesFrom W.heap.size Jx →
    (∀ k W1, k < N → J k W1 → YieldAt Fence.wide 8 P l (encs k) W1 fun e W' => (e = .returned (.bool true) ∧ J (k + 1) W' ∧ Kp W1 W') ∨ (e = .returned (.bool false) ∧ Jx k W')) →
    J 0 W → CallsIn Fence.wide 9 P gf (#[.func (.yield l) #[] #[]] ++ lb) W fun e W' => (∃ v, e = .returned v) ∧ (J N W' ∨ ∃ k, k < N ∧ Jx k W')

/-- How a round's body may be left. -/
def postNth (B : Nat) (Kp : World → World → Prop) (I : Nat → World → Prop) (Ix : Code → Nat → World → Prop) (k : Nat) (W : World) : Exit → Act → World → Prop
  | .normal, _, W' => KeepsFrom B W W' ∧ Kp W W' ∧ I (k + 1) W'
  | .ret, _, W' => KeepsFrom B W W' ∧ Ix .ret k W'
  | .exit id, _, W' => KeepsFrom B W W' ∧ Ix (.exit id) k W'
  | .goto t, _, W' => KeepsFrom B W W' ∧ Ix (.goto t) k W'
  | .panic _, _, _ => False
  | .outgrown, _, _ => False

/-- The loop's record at l, and the block for deferred calls at D. -/
def Book (l D : Nat) (r : Loop) (W : World) : Prop := W.heap[l]? = some (.loop r) ∧ W.heap[D]? = some (.deferred (some []))

theorem Book.from {l D B : Nat} {r : Loop} {W W' : World} (h : Book l D r W) (k : KeepsFrom B W W') (h1 : B ≤ l) (h2 : B ≤ D) : Book l D r W' :=
  ⟨k.same _ _ h1 h.1 rfl, k.same _ _ h2 h.2 rfl⟩
theorem Book.put {l D : Nat} {r : Loop} {W : World} (h : Book l D r W) (hne : D ≠ l) (r' : Loop) : Book l D r' (W.putObj l (.loop r')) :=
  ⟨World.putObj_heap_same (Array.getElem?_eq_some_iff.1 h.1).1, (World.putObj_heap_other (by omega)).trans h.2⟩
theorem Book.walks {l D : Nat} {r : Loop} {W W' : World} {row : Option Nat} (h : Book l D r W) (hg : W.grownBy W' row) (hr : ∀ k, row = some k → ∃ o : Obj, W.heap[k]? = some o ∧ o.isWalk = true) : Book l D r W' :=
  ⟨(grownBy_keeps hg hr h.1 rfl).trans h.1, (grownBy_keeps hg hr h.2 rfl).trans h.2⟩

/-- A block at or beyond B that holds no cells has turned: the loop's own record. -/
def Busy (B : Nat) (W W' : World) : Prop := ∃ (l : Nat) (o o' : Obj), B ≤ l ∧ W.heap[l]? = some o ∧ o.isCells = false ∧ W' = W.putObj l o'
theorem Busy.own {β : Type} {B : Nat} {I : β → World → Prop} {s : β} {W W' : World} (h : Busy B W W') (hI : OwnFrom B I) (hs : I s W) : I s W' := by
  obtain ⟨l, o, o', h1, h2, h3, rfl⟩ := h
  exact hI.putObj o' hs h1 h2 h3

theorem wp_rangeNth {P : Program} {g : Operand} {ps : Array Tmp} {assign body : Code} {Q : Exit → Act → World → Prop} {a : Act} {w : World} {gf : Nat} {lb : Array Value}
    (hg : a.eval g = .func (.func gf) #[] lb) (eg : ∀ args w, (callFunc gf args).run P w = .ok (.enter gf args) w)
    {encs : Nat → Array Value} {Kp : World → World → Prop} {N : Nat} {w0 : World} (hseq : SeqNth P gf lb encs Kp N w0)
    (hKt : ∀ {A B C : World}, Kp A B → Kp B C → Kp A C) (hKb : ∀ (W : World) (l : Nat) (o o' : Obj), w.heap.size ≤ l → W.heap[l]? = some o → o.isCells = false → Kp W (W.putObj l o')) (hb0 : Below w0.heap.size w0 w) (hps : ∀ k, (encs k).size = ps.size)
    (I : Nat → World → Prop) (Ix : Code → Nat → World → Prop) (hI : OwnFrom w.heap.size I) (hIx : ∀ c, OwnFrom w.heap.size (Ix c)) (h0 : I 0 w)
    (hround : ∀ (l k : Nat) (W : World), k < N → I k W →
      assign.wpIn (Fence.wide.inRound l) 8 P (Exit.then (fun a' W' => KeepsFrom w.heap.size W W' ∧ Kp W W' ∧ ∀ W'', Busy w.heap.size W' W'' → body.wpIn (Fence.wide.inRound l) 8 P (postNth w.heap.size Kp I Ix k W'') a' W'') (fun _ _ _ => False)) { tmps := (ps.zip (encs k)).foldl (fun t (p, v) => t.setIfInBounds p v) a.tmps, defers := [] } W)
    (hdone : ∀ (D : Nat) (W : World), w.heap.size ≤ D → I N W → W.heap[D]? = some (.deferred (some [])) → Q .normal { a with defers := { target := .collected D, args := #[] } :: a.defers } W)
    (hstop : ∀ (D : Nat) (c : Code) (k : Nat) (W : World), w.heap.size ≤ D → k < N → Ix c k W → W.heap[D]? = some (.deferred (some [])) → c.wp P Q { a with defers := { target := .collected D, args := #[] } :: a.defers } W) :
    (Code.rangeFunc g ps assign body).wp P Q a w := by
  refine (wpIn_wide (n := 10)).1 (wpIn_rangeFunc fun fn hfn => ?_)
  show ∃ (l : Nat) (mark : List Deferred) (w₁ : World) (d : Deferred) (w₁' : World) (f : FuncId) (args : Array Value) (w₂ : World), (Instr.enterLoop fn a.tmps ps assign body none).run P w = .ok (l, mark) w₁ ∧ _
  rw [run_enterLoop_outer]
  obtain ⟨r0, hr0⟩ : ∃ r : Loop, r = { state := .ready, pending := none, fn, tmps := a.tmps, params := ps, assign, body, defers := w.heap.size } := ⟨_, rfl⟩
  rw [← hr0]
  obtain ⟨W1, hW1⟩ : ∃ W1, (w.alloc (.deferred (some []))).alloc (.loop r0) = W1 := ⟨_, rfl⟩
  rw [hW1]
  have z1 : W1.heap.size = w.heap.size + 2 := by rw [← hW1]; simp
  have bk1 : Book (w.heap.size + 1) w.heap.size r0 W1 := by
    rw [← hW1]
    refine ⟨?_, (Below.heap_alloc _ _ _ (by simp)).trans (World.alloc_heap_new w _)⟩
    have := World.alloc_heap_new (w.alloc (.deferred (some []))) (.loop r0)
    rwa [World.size_alloc] at this
  have hI1 : I 0 W1 := by rw [← hW1]; exact hI.alloc _ (hI.alloc _ h0)
  have hB1 : Below w0.heap.size w0 W1 := by
    rw [← hW1]
    exact hb0.trans ((((Below.refl _ w).alloc (Nat.le_refl _) _).alloc (by simp) _).mono hb0.size)
  refine ⟨_, _, _, { target := .fn (.func gf) lb, args := #[.func (.yield (w.heap.size + 1)) #[] #[]] }, W1, gf, #[.func (.yield (w.heap.size + 1)) #[] #[]] ++ lb, W1, rfl, ?_, ?_, ?_, fun _ => by omega, ?_⟩
  · simp only [resolve, hg]
    simp [go_sem]
  · intro f' hf'
    trivial
  · simp [invoke, go_sem, eg]
  have far : ∀ {A : World} {row : Option Nat}, (∀ r, row = some r → W1.heap.size ≤ r ∧ ∃ o : Obj, A.heap[r]? = some o ∧ o.isWalk = true) → ∀ r, row = some r → w.heap.size ≤ r ∧ ∃ o : Obj, A.heap[r]? = some o ∧ o.isCells = false := fun hr r e => by
    obtain ⟨h1, o, h2, h3⟩ := hr r e
    exact ⟨by omega, o, h2, Obj.not_cells_of_walk h3⟩
  refine (hseq (w.heap.size + 1) (fun k W => I k W ∧ Book (w.heap.size + 1) w.heap.size r0 W) (fun k W => ∃ c, Ix c k W ∧ Book (w.heap.size + 1) w.heap.size { r0 with state := .done, pending := some c } W) W1 hB1 ?_ ?_ ?_ ⟨hI1, bk1⟩).mono ?_
  · rintro s A B row ⟨h1, h2⟩ hg' hr
    exact ⟨hI s A B row h1 hg' (far hr), h2.walks hg' (fun k e => (hr k e).2)⟩
  · rintro s A B row ⟨c, h1, h2⟩ hg' hr
    exact ⟨c, hIx c s A B row h1 hg' (far hr), h2.walks hg' (fun k e => (hr k e).2)⟩
  · rintro k W hk ⟨hi, bk⟩
    have hy := run_yield (P := P) (args := encs k) bk.1 (by rw [hr0]; exact hps k)
    rw [hr0] at hy
    refine ⟨fn, _, assign, body, hy, roundIn_of_wpIn hfn (wpIn_mono (hround _ k W hk hi) ?_)⟩
    intro e a' Wa hp
    cases e with
    | normal =>
      obtain ⟨kf, kp, hax⟩ := hp
      have bka := bk.from kf (by omega) (Nat.le_refl _)
      refine ⟨_, run_beginRound bka.1 (by rw [hr0]), ?_⟩
      have bkb := bka.put (by omega) { r0 with state := .busy }
      have kpb := hKb _ _ _ (.loop { r0 with state := .busy }) (by omega) bka.1 rfl
      have axb := hax _ ⟨_, _, _, (by omega : w.heap.size ≤ w.heap.size + 1), bka.1, rfl, (rfl : _ = Wa.putObj (w.heap.size + 1) (.loop { r0 with state := .busy }))⟩
      generalize Wa.putObj (w.heap.size + 1) (.loop { r0 with state := .busy }) = Wb at *
      refine wpIn_mono axb ?_
      intro e2 a2 W2 hp2
      cases e2 with
      | normal =>
        obtain ⟨kf2, kp2, i2⟩ := hp2
        have b2 := bkb.from kf2 (by omega) (Nat.le_refl _)
        refine ⟨_, _, run_endRound none b2.1, .inl ⟨rfl, ⟨hI.putObj _ i2 (by omega) b2.1 rfl, ?_⟩, hKt kp (hKt kpb (hKt kp2 (hKb _ _ _ _ (by omega) b2.1 rfl)))⟩⟩
        have b3 := b2.put (by omega) { r0 with state := .ready, pending := none }
        rw [hr0] at b3 ⊢
        exact b3
      | ret =>
        obtain ⟨kf2, i2⟩ := hp2
        have b2 := bkb.from kf2 (by omega) (Nat.le_refl _)
        exact ⟨_, _, run_endRound (some .ret) b2.1, .inr ⟨rfl, _, (hIx _).putObj _ i2 (by omega) b2.1 rfl, b2.put (by omega) _⟩⟩
      | exit id =>
        obtain ⟨kf2, i2⟩ := hp2
        have b2 := bkb.from kf2 (by omega) (Nat.le_refl _)
        exact ⟨_, _, run_endRound (some (.exit id)) b2.1, .inr ⟨rfl, _, (hIx _).putObj _ i2 (by omega) b2.1 rfl, b2.put (by omega) _⟩⟩
      | goto t =>
        obtain ⟨kf2, i2⟩ := hp2
        have b2 := bkb.from kf2 (by omega) (Nat.le_refl _)
        exact ⟨_, _, run_endRound (some (.goto t)) b2.1, .inr ⟨rfl, _, (hIx _).putObj _ i2 (by omega) b2.1 rfl, b2.put (by omega) _⟩⟩
      | panic ch => exact hp2.elim
      | outgrown => exact hp2.elim
    | ret => exact hp.elim
    | exit id => exact hp.elim
    | goto t => exact hp.elim
    | panic ch => exact hp.elim
    | outgrown => exact hp.elim
  · rintro e W2 ⟨⟨v, rfl⟩, ⟨hi, bk⟩ | ⟨k, hk, c, hi, bk⟩⟩
    · refine ⟨none, _, ?_, hdone _ _ (Nat.le_refl _) (hI.putObj (.loop { r0 with state := .exhausted }) hi (by omega) bk.1 rfl) (bk.put (by omega) _).2⟩
      have := run_endLoop (P := P) bk.1 (by rw [hr0]; simp)
      rw [this, hr0]
    · refine ⟨some c, _, ?_, wpIn_wide.2 (hstop _ c k _ (Nat.le_refl _) hk ((hIx c).putObj (.loop { r0 with state := .exhausted, pending := some c }) hi (by omega) bk.1 rfl) (bk.put (by omega) _).2)⟩
      exact run_endLoop (P := P) bk.1 (by simp)

/-- The marks that such loops leave among the deferred calls: blocks from B on, all different, with nothing in them. -/
def Marks (B : Nat) : List Deferred → World → Prop
  | [], _ => True
  | d :: ds, W => (∃ D, d = { target := .collected D, args := #[] } ∧ B ≤ D ∧ W.heap[D]? = some (.deferred (some [])) ∧ ∀ d' ∈ ds, d'.target ≠ .collected D) ∧ Marks B ds W

theorem Marks.keep {B : Nat} {W W' : World} : ∀ {ds : List Deferred}, Marks B ds W → (∀ D, (∃ d ∈ ds, d.target = .collected D) → W'.heap[D]? = W.heap[D]?) → Marks B ds W'
  | [], _, _ => trivial
  | d :: ds, ⟨⟨D, h1, h2, h3, h4⟩, h5⟩, hk => ⟨⟨D, h1, h2, (hk D ⟨d, by simp, by rw [h1]⟩).trans h3, h4⟩, Marks.keep h5 (fun D' ⟨d', hd, he⟩ => hk D' ⟨d', List.mem_cons_of_mem _ hd, he⟩)⟩
theorem Marks.obj {B : Nat} {W : World} : ∀ {ds : List Deferred}, Marks B ds W → ∀ D, (∃ d ∈ ds, d.target = .collected D) → B ≤ D ∧ W.heap[D]? = some (.deferred (some []))
  | [], _, _, ⟨_, hd, _⟩ => absurd hd (by simp)
  | d :: ds, ⟨⟨D, h1, h2, h3, h4⟩, h5⟩, D', ⟨d', hd, he⟩ => by
    rcases List.mem_cons.1 hd with rfl | hd
    · rw [h1] at he
      cases he
      exact ⟨h2, h3⟩
    · exact Marks.obj h5 D' ⟨d', hd, he⟩
theorem Marks.from {B B' : Nat} {ds : List Deferred} {W W' : World} (h : Marks B ds W) (k : KeepsFrom B' W W') (hB : B' ≤ B) : Marks B ds W' :=
  h.keep (fun D hd => by
    obtain ⟨h1, h2⟩ := h.obj D hd
    rw [k.same D _ (by omega) h2 rfl, h2])
theorem Marks.cons {B D : Nat} {ds : List Deferred} {W W0 : World} (h0 : Marks B ds W0) (hD : W0.heap.size ≤ D) (hB : B ≤ D) (h : Marks B ds W) (hk : W.heap[D]? = some (.deferred (some []))) : Marks B ({ target := .collected D, args := #[] } :: ds) W :=
  ⟨⟨D, rfl, hB, hk, fun d' hd' e => by
    have := (h0.obj D ⟨d', hd', e⟩).2
    have := (Array.getElem?_eq_some_iff.1 this).1
    omega⟩, h⟩

/-- Leaving with marks alone: each block is shut, and nothing else happens. -/
theorem leaves_marks {P : Program} {fn : Func} {tmps : Array Value} {R : Ending → World → Prop} {B n : Nat} {w : World} (hw : B ≤ w.heap.size) :
    ∀ (ds : List Deferred) (W : World), Marks B ds W → Below B w W → (∀ W' : World, Below B w W' → (∀ k : Nat, (∀ D : Nat, W.heap[D]? = some (Obj.deferred (some [])) → k ≠ D) → W'.heap[k]? = W.heap[k]?) → LeavesInM Fence.wide n P fn tmps R [] .returning W') → LeavesInM Fence.wide n P fn tmps R ds .returning W
  | [], W, _, hb, h => h W hb (fun _ _ => rfl)
  | d :: ds, W, ⟨⟨D, h1, h2, h3, h4⟩, h5⟩, hb, h => by
    subst h1
    refine ⟨by simp, .inl ⟨D, _, rfl, run_takeDeferred h3, ?_⟩⟩
    have hD := (Array.getElem?_eq_some_iff.1 h3).1
    refine leaves_marks hw ds _ (h5.keep (fun D' ⟨d', hd, he⟩ => World.putObj_heap_other (fun e => h4 d' hd (by rw [he, e])))) (hb.trans ((Below.refl B W).grown (grownBy_putObj' W D _) (Nat.le_trans hw hb.size) (fun k e => by cases e; exact h2))) ?_
    intro W' hb' hk
    refine h W' hb' (fun k hne => ?_)
    rw [hk k ?_, World.putObj_heap_other (fun e => hne D h3 e)]
    intro D' hD' e
    by_cases x : D' = D
    · subst x
      rw [World.putObj_heap_same hD] at hD'
      cases hD'
    · rw [World.putObj_heap_other x] at hD'
      exact hne D' hD' e

/-- How such a function may be left. -/
def retM (P : Program) (fn : Func) (R : Ending → World → Prop) : Exit → Act → World → Prop
  | .normal, a, w => LeavesInM Fence.wide 10 P fn a.tmps R a.defers .returning w
  | .ret, a, w => LeavesInM Fence.wide 10 P fn a.tmps R a.defers .returning w
  | _, _, _ => False

/-- A function that goes through such loops, walked as any other. -/
theorem calls_marks {P : Program} {f : FuncId} {fn : Func} {c : Code} {args : Array Value} {w : World} {R : Ending → World → Prop} (hf : P.funcs[f]? = some fn) (hb : fn.body = some c)
    (h : c.wp P (retM P fn R) { tmps := args ++ Array.replicate (fn.ntmps - args.size) undef, defers := [] } w) : Calls P f args w R :=
  (callsIn_wide (n := 10)).1 (callsIn_of_wp_marks hf hb trivial (wpIn_mono (wpIn_wide.2 h) (fun e a w hq => by cases e <;> first | exact hq | exact hq.elim)) rfl)
end Go.Proofs.Ytfjepkakimhbbaa
