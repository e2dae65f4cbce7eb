/-
  A range over a function, round by round, for an iterator that goes through another one: what it keeps of its caller abides what it writes into blocks that are its own.
-/
import Derived.Test.YtfjepkakimhbbaaRng
namespace Go.Proofs.Ytfjepkakimhbbaa
open Go.RowKit
set_option linter.unusedVariables false

/-- The cells in the blocks F, and in the c blocks from b on, lie as they lay. -/
def KeepB (F : Nat → Prop) (c b : Nat) (A B : World) : Prop := ∀ k o, (F k ∨ (b ≤ k ∧ k < b + c)) → A.heap[k]? = some o → o.isCells = true → B.heap[k]? = some o
theorem KeepB.refl (F : Nat → Prop) (c b : Nat) (A : World) : KeepB F c b A A := fun _ _ _ h _ => h
theorem KeepB.trans {F : Nat → Prop} {c b : Nat} {A B C : World} (h : KeepB F c b A B) (k : KeepB F c b B C) : KeepB F c b A C := fun i o hi ho hc => k i o hi (h i o hi ho hc) hc
theorem KeepB.put {F : Nat → Prop} {c b : Nat} (W : World) (l : Nat) (o o' : Obj) (hl : W.heap[l]? = some o) (ho : o.isCells = false) : KeepB F c b W (W.putObj l o') := fun k o2 _ h hc => by
  by_cases e : k = l
  · subst e
    rw [hl] at h
    cases h
    rw [ho] at hc
    cases hc
  · exact (World.putObj_heap_other e).trans h
theorem KeepB.mono {F F' : Nat → Prop} {c c' b b' : Nat} {A B : World} (h : KeepB F c b A B) (hs : ∀ k, (F' k ∨ (b' ≤ k ∧ k < b' + c')) → (F k ∨ (b ≤ k ∧ k < b + c))) : KeepB F' c' b' A B := fun k o hk => h k o (hs k hk)

/-- An iterator that hands out encs 0, .., encs (N - 1), in this order, to whatever body keeps F and the c blocks that it makes for itself; it may have loops of its own. -/
def SeqOwn (P : Program) (gf : Nat) (lb : Array Value) (encs : Nat → Array Value) (F : Nat → Prop) (c : Nat) (N : Nat) (w : World) : Prop :=
  ∀ (l : Nat) (J Jx : Nat → World → Prop) (W : World), Below w.heap.size w W → OwnFrom W.heap.size J → OwnFrom W.heap.size Jx →
    (∀ k W1, k < N → J k W1 → W.heap.size + c ≤ W1.heap.size → YieldAt Fence.wide 8 P l (encs k) W1 fun e W' => KeepsFrom W.heap.size W1 W' ∧ ((e = .returned (.bool true) ∧ J (k + 1) W' ∧ KeepB F c W.heap.size W1 W') ∨ (e = .returned (.bool false) ∧ Jx k W'))) →
    J 0 W → CallsIn Fence.wide 9 P gf (#[.func (.yield l) #[] #[]] ++ lb) W fun e W' => (∃ v, e = .returned v) ∧ (J N W' ∨ ∃ k, k < N ∧ Jx k W')
theorem ownFrom_abides {β : Type} {B : Nat} {J : β → World → Prop} (h : OwnFrom B J) : AbidesFrom B J := fun s W W' row hs hg hr =>
  h s W W' row hs hg (fun r e => by obtain ⟨h1, o, h2, h3⟩ := hr r e; exact ⟨h1, o, h2, Obj.not_cells_of_walk h3⟩)
theorem ownFrom_mono {β : Type} {B B' : Nat} {J : β → World → Prop} (h : OwnFrom B J) (hB : B ≤ B') : OwnFrom B' J := fun s W W' row hs hg hr =>
  h s W W' row hs hg (fun r e => by obtain ⟨h1, h2⟩ := hr r e; exact ⟨Nat.le_trans hB h1, h2⟩)
theorem RoundIn.any {n m : Nat} {P : Program} {l l2 : Nat} {f : FuncId} {tmps : Array Value} {assign body : Code} {w : World} {R : Ending → World → Prop} (h : RoundIn Fence.wide n P l f tmps assign body w R) : RoundIn (Fence.wide.inRound l2) m P l f tmps assign body w R :=
  ⟨h.1, fun c cs _ => h.2 c cs (room_wide _)⟩
theorem keeps_mono {B B' : Nat} {W W' : World} (h : KeepsFrom B W W') (hB : B ≤ B') : KeepsFrom B' W W' := ⟨h.size, fun k o hk => h.same k o (Nat.le_trans hB hk)⟩
theorem keepsFrom_put {B l : Nat} (W : World) (o : Obj) (hl : l < B) : KeepsFrom B W (W.putObj l o) :=
  ⟨by simp [World.putObj], fun k o' hk h _ => (World.putObj_heap_other (by omega)).trans h⟩

theorem wp_rangeOwn {P : Program} {g : Operand} {ps : Array Tmp} {assign body : Code} {Q : Exit → Act → World → Prop} {a : Act} {w : World} {gf : Nat} {lb : Array Value}
    (hg : a.eval g = .func (.func gf) #[] lb) (eg : ∀ args w, (callFunc gf args).run P w = .ok (.enter gf args) w)
    {encs : Nat → Array Value} {F : Nat → Prop} {c : Nat} {N : Nat} {w0 : World} (hseq : SeqOwn P gf lb encs F c N w0)
    (hb0 : Below w0.heap.size w0 w) (hps : ∀ k, (encs k).size = ps.size)
    (I : Nat → World → Prop) (Ix : Code → Nat → World → Prop) (hI : OwnFrom w.heap.size I) (hIx : ∀ c, OwnFrom w.heap.size (Ix c)) (h0 : I 0 w)
    (hround : ∀ (l k : Nat) (W : World), k < N → I k W → w.heap.size + 2 + c ≤ W.heap.size →
      assign.wpIn (Fence.wide.inRound l) 8 P (Exit.then (fun a' W' => KeepsFrom w.heap.size W W' ∧ KeepB F c (w.heap.size + 2) W W' ∧ ∀ W'', Busy w.heap.size W' W'' → body.wpIn (Fence.wide.inRound l) 8 P (postNth w.heap.size (KeepB F c (w.heap.size + 2)) I Ix k W'') a' W'') (fun _ _ _ => False)) { tmps := (ps.zip (encs k)).foldl (fun t (p, v) => t.setIfInBounds p v) a.tmps, defers := [] } W)
    (hdone : ∀ (D : Nat) (W : World), w.heap.size ≤ D → I N W → W.heap[D]? = some (.deferred (some [])) → Q .normal { a with defers := { target := .collected D, args := #[] } :: a.defers } W)
    (hstop : ∀ (D : Nat) (c : Code) (k : Nat) (W : World), w.heap.size ≤ D → k < N → Ix c k W → W.heap[D]? = some (.deferred (some [])) → c.wp P Q { a with defers := { target := .collected D, args := #[] } :: a.defers } W) :
    (Code.rangeFunc g ps assign body).wp P Q a w := by
  refine (wpIn_wide (n := 10)).1 (wpIn_rangeFunc fun fn hfn => ?_)
  show ∃ (l : Nat) (mark : List Deferred) (w₁ : World) (d : Deferred) (w₁' : World) (f : FuncId) (args : Array Value) (w₂ : World), (Instr.enterLoop fn a.tmps ps assign body none).run P w = .ok (l, mark) w₁ ∧ _
  rw [run_enterLoop_outer]
  obtain ⟨r0, hr0⟩ : ∃ r : Loop, r = { state := .ready, pending := none, fn, tmps := a.tmps, params := ps, assign, body, defers := w.heap.size } := ⟨_, rfl⟩
  rw [← hr0]
  obtain ⟨W1, hW1⟩ : ∃ W1, (w.alloc (.deferred (some []))).alloc (.loop r0) = W1 := ⟨_, rfl⟩
  rw [hW1]
  have z1 : W1.heap.size = w.heap.size + 2 := by rw [← hW1]; simp
  have bk1 : Book (w.heap.size + 1) w.heap.size r0 W1 := by
    rw [← hW1]
    refine ⟨?_, (Below.heap_alloc _ _ _ (by simp)).trans (World.alloc_heap_new w _)⟩
    have := World.alloc_heap_new (w.alloc (.deferred (some []))) (.loop r0)
    rwa [World.size_alloc] at this
  have hI1 : I 0 W1 := by rw [← hW1]; exact hI.alloc _ (hI.alloc _ h0)
  have hB1 : Below w0.heap.size w0 W1 := by
    rw [← hW1]
    exact hb0.trans ((((Below.refl _ w).alloc (Nat.le_refl _) _).alloc (by simp) _).mono hb0.size)
  refine ⟨_, _, _, { target := .fn (.func gf) lb, args := #[.func (.yield (w.heap.size + 1)) #[] #[]] }, W1, gf, #[.func (.yield (w.heap.size + 1)) #[] #[]] ++ lb, W1, rfl, ?_, ?_, ?_, fun _ => by omega, ?_⟩
  · simp only [resolve, hg]
    simp [go_sem]
  · intro f' hf'
    trivial
  · simp [invoke, go_sem, eg]
  have far : ∀ {A : World} {row : Option Nat}, (∀ r, row = some r → W1.heap.size ≤ r ∧ ∃ o : Obj, A.heap[r]? = some o ∧ o.isCells = false) → ∀ r, row = some r → w.heap.size ≤ r ∧ ∃ o : Obj, A.heap[r]? = some o ∧ o.isCells = false := fun hr r e => by
    obtain ⟨h1, o, h2, h3⟩ := hr r e
    exact ⟨by omega, o, h2, h3⟩
  have farB : ∀ {A B : World} {row : Option Nat} {r : Loop}, Book (w.heap.size + 1) w.heap.size r A → A.grownBy B row → (∀ r, row = some r → W1.heap.size ≤ r ∧ ∃ o : Obj, A.heap[r]? = some o ∧ o.isCells = false) → Book (w.heap.size + 1) w.heap.size r B := fun hbk hg' hr =>
    ⟨(hg'.block _ (Array.getElem?_eq_some_iff.1 hbk.1).1 (fun e => by have := (hr _ e.symm).1; omega)).trans hbk.1, (hg'.block _ (Array.getElem?_eq_some_iff.1 hbk.2).1 (fun e => by have := (hr _ e.symm).1; omega)).trans hbk.2⟩
  refine (hseq (w.heap.size + 1) (fun k W => I k W ∧ Book (w.heap.size + 1) w.heap.size r0 W) (fun k W => ∃ c, Ix c k W ∧ Book (w.heap.size + 1) w.heap.size { r0 with state := .done, pending := some c } W) W1 hB1 ?_ ?_ ?_ ⟨hI1, bk1⟩).mono ?_
  · rintro s A B row ⟨h1, h2⟩ hg' hr
    exact ⟨hI s A B row h1 hg' (far hr), farB h2 hg' hr⟩
  · rintro s A B row ⟨c, h1, h2⟩ hg' hr
    exact ⟨c, hIx c s A B row h1 hg' (far hr), farB h2 hg' hr⟩
  · rintro k W hk ⟨hi, bk⟩ hz
    have hy := run_yield (P := P) (args := encs k) bk.1 (by rw [hr0]; exact hps k)
    rw [hr0] at hy
    refine ⟨fn, _, assign, body, hy, roundIn_of_wpIn hfn (wpIn_mono (hround _ k W hk hi (by rw [z1] at hz; exact hz)) ?_)⟩
    intro e a' Wa hp
    cases e with
    | normal =>
      obtain ⟨kf, kp, hax⟩ := hp
      have bka := bk.from kf (by omega) (Nat.le_refl _)
      refine ⟨_, run_beginRound bka.1 (by rw [hr0]), ?_⟩
      have bkb := bka.put (by omega) { r0 with state := .busy }
      have kpb := KeepB.put (F := F) (c := c) (b := w.heap.size + 2) _ _ _ (.loop { r0 with state := .busy }) bka.1 rfl
      have axb := hax _ ⟨_, _, _, (by omega : w.heap.size ≤ w.heap.size + 1), bka.1, rfl, (rfl : _ = Wa.putObj (w.heap.size + 1) (.loop { r0 with state := .busy }))⟩
      have KK : KeepsFrom W1.heap.size W (Wa.putObj (w.heap.size + 1) (.loop { r0 with state := .busy })) := (keeps_mono kf (by omega)).trans (keepsFrom_put _ _ (by omega))
      generalize Wa.putObj (w.heap.size + 1) (.loop { r0 with state := .busy }) = Wb at *
      refine wpIn_mono axb ?_
      intro e2 a2 W2 hp2
      cases e2 with
      | normal =>
        obtain ⟨kf2, kp2, i2⟩ := hp2
        have b2 := bkb.from kf2 (by omega) (Nat.le_refl _)
        refine ⟨_, _, run_endRound none b2.1, KK.trans ((keeps_mono kf2 (by omega)).trans (keepsFrom_put _ _ (by omega))), .inl ⟨rfl, ⟨hI.putObj _ i2 (by omega) b2.1 rfl, ?_⟩, by rw [z1]; exact kp.trans (kpb.trans (kp2.trans (KeepB.put _ _ _ _ b2.1 rfl)))⟩⟩
        have b3 := b2.put (by omega) { r0 with state := .ready, pending := none }
        rw [hr0] at b3 ⊢
        exact b3
      | ret =>
        obtain ⟨kf2, i2⟩ := hp2
        have b2 := bkb.from kf2 (by omega) (Nat.le_refl _)
        exact ⟨_, _, run_endRound (some .ret) b2.1, KK.trans ((keeps_mono kf2 (by omega)).trans (keepsFrom_put _ _ (by omega))), .inr ⟨rfl, _, (hIx _).putObj _ i2 (by omega) b2.1 rfl, b2.put (by omega) _⟩⟩
      | exit id =>
        obtain ⟨kf2, i2⟩ := hp2
        have b2 := bkb.from kf2 (by omega) (Nat.le_refl _)
        exact ⟨_, _, run_endRound (some (.exit id)) b2.1, KK.trans ((keeps_mono kf2 (by omega)).trans (keepsFrom_put _ _ (by omega))), .inr ⟨rfl, _, (hIx _).putObj _ i2 (by omega) b2.1 rfl, b2.put (by omega) _⟩⟩
      | goto t =>
        obtain ⟨kf2, i2⟩ := hp2
        have b2 := bkb.from kf2 (by omega) (Nat.le_refl _)
        exact ⟨_, _, run_endRound (some (.goto t)) b2.1, KK.trans ((keeps_mono kf2 (by omega)).trans (keepsFrom_put _ _ (by omega))), .inr ⟨rfl, _, (hIx _).putObj _ i2 (by omega) b2.1 rfl, b2.put (by omega) _⟩⟩
      | panic ch => exact hp2.elim
      | outgrown => exact hp2.elim
    | ret => exact hp.elim
    | exit id => exact hp.elim
    | goto t => exact hp.elim
    | panic ch => exact hp.elim
    | outgrown => exact hp.elim
  · rintro e W2 ⟨⟨v, rfl⟩, ⟨hi, bk⟩ | ⟨k, hk, c, hi, bk⟩⟩
    · refine ⟨none, _, ?_, hdone _ _ (Nat.le_refl _) (hI.putObj (.loop { r0 with state := .exhausted }) hi (by omega) bk.1 rfl) (bk.put (by omega) _).2⟩
      have := run_endLoop (P := P) bk.1 (by rw [hr0]; simp)
      rw [this, hr0]
    · refine ⟨some c, _, ?_, wpIn_wide.2 (hstop _ c k _ (Nat.le_refl _) hk ((hIx c).putObj (.loop { r0 with state := .exhausted, pending := some c }) hi (by omega) bk.1 rfl) (bk.put (by omega) _).2)⟩
      exact run_endLoop (P := P) bk.1 (by simp)
end Go.Proofs.Ytfjepkakimhbbaa
