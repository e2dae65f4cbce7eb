/-
  The walk of ratio.Sums over the law's iterator: every round, the way on and the way out by the label, the deferred function behind it; and over nil.
-/
import Derived.Test.YthindhclcdbnfaaRatU
namespace Go.Proofs.Ythindhclcdbnfaa
open Go.RowKit Go.Shelf
set_option linter.unusedVariables false
attribute [local go_sem] Oper.semAt_some

theorem sumsI_own (w : World) : Own (SumsI w) := fun s A B row hs hg hr => by
  obtain ⟨a, b, h1, h2, h3, h4⟩ := hs
  exact ⟨a, b, h1, h2, h3, h4.kept hg hr⟩
theorem sumsX_own (w : World) (c : Code) : Own (SumsX w c) := fun s A B row hs hg hr => by
  obtain ⟨a, h1, h2, h4⟩ := hs
  exact ⟨a, h1, h2, h4.kept hg hr⟩

theorem cell_lt {W : World} {b o : Nat} {v : Value} (h : W.cell? ⟨b, o, none⟩ = some v) : b < W.heap.size := by
  obtain ⟨x, hx, _⟩ := cells_of_cell h
  exact (Array.getElem?_eq_some_iff.1 hx).1
theorem Trio.alloc {W : World} {b : Nat} {s m e : Int} (h : Trio W b s m e) (o : Obj) : Trio (W.alloc o) b s m e := h.kept (World.grownBy_alloc W o none) (fun r e => by cases e)
theorem Trio.put {W : World} {b : Nat} {s m e : Int} (h : Trio W b s m e) (s' m' e' : Int) :
    Trio (((W.setCell ⟨b, 0, none⟩ (.int .i64 s')).setCell ⟨b + 1 + 1, 0, none⟩ (.int .i64 e')).setCell ⟨b + 1, 0, none⟩ (.int .i64 m')) b s' m' e' := by
  obtain ⟨⟨c1, f1⟩, ⟨c2, f2⟩, c3, f3⟩ := h
  exact ⟨⟨by simp [go_sem, c1], by simp [go_sem, f1]⟩, ⟨by simp [go_sem, c2], by simp [go_sem, f2]⟩, ⟨by simp [go_sem, c3], by simp [go_sem, f3]⟩⟩

theorem Trio.back {W : World} {b : Nat} {s m e : Int} (h : Trio W b s m e) :
    Trio (((W.setCell ⟨b, 0, none⟩ (.int .i64 s)).setCell ⟨b + 1, 0, none⟩ (.int .i64 m)).setCell ⟨b + 1 + 1, 0, none⟩ (.int .i64 e)).drew b s m e := by
  obtain ⟨⟨c1, f1⟩, ⟨c2, f2⟩, c3, f3⟩ := h
  exact ⟨⟨by simp [go_sem, c1], by simp [go_sem, f1]⟩, ⟨by simp [go_sem, c2], by simp [go_sem, f2]⟩, ⟨by simp [go_sem, c3], by simp [go_sem, f3]⟩⟩

/-- Sums's way out: the mark of the loop, the deferred function that finds nothing to catch, the three results. -/
theorem sums_leaves (n D : Nat) (hn : 3 ≤ n) (w W : World) (tmps : Array Value) (s m e : Int) (hT : Trio W w.heap.size s m e) (hB : Below w.heap.size w W) (hD : w.heap.size ≤ D) (hK : W.heap[D]? = some (.deferred (some [])))
    (t2 : tmps[2]? = some (Value.pointer (some { block := w.heap.size, off := 0 }))) (t3 : tmps[3]? = some (Value.pointer (some { block := w.heap.size + 1, off := 0 }))) (t4 : tmps[4]? = some (Value.pointer (some { block := w.heap.size + 1 + 1, off := 0 })))
    (R : Ending → World → Prop) (hR : ∀ W', Below w.heap.size w W' → R (.returned (.tuple #[.int .i64 s, .int .i64 m, .int .i64 e])) W') :
    LeavesInM Fence.wide n Try.prog Try.f20 tmps R
      [{ target := Target.collected D, args := #[] },
        { target := Target.fn (Fn.func 27) #[Value.pointer (some { block := w.heap.size + 1 + 1, off := 0 }), Value.pointer (some { block := w.heap.size, off := 0 }), Value.pointer (some { block := w.heap.size + 1, off := 0 })], args := #[] }] .returning W := by
  refine ⟨by simp, .inl ⟨_, _, rfl, run_takeDeferred hK, ?_⟩⟩
  have hT' : Trio (W.putObj D (.deferred none)) w.heap.size s m e := hT.kept (grownBy_putObj' _ D (.deferred none)) (fun r e => by cases e; exact ⟨_, hK, rfl⟩)
  have hB' : Below w.heap.size w (W.putObj D (.deferred none)) := hB.trans (belowK_b (w := w) (Nat.le_refl _) W D _ _ hD hK rfl rfl)
  generalize W.putObj D (.deferred none) = W2 at *
  refine ⟨by simp, .inr ⟨fun _ => by omega, _, _, 27, #[Value.pointer (some { block := w.heap.size + 1 + 1, off := 0 }), Value.pointer (some { block := w.heap.size, off := 0 }), Value.pointer (some { block := w.heap.size + 1, off := 0 })], rfl, by simp [go_sem, invoke], fun _ _ => trivial, (caught_idle _ _ _ _ _).mono ?_⟩⟩
  rintro e' u' w' ⟨rfl, rfl, rfl⟩
  obtain ⟨⟨c1, f1⟩, ⟨c2, f2⟩, c3, f3⟩ := hT'
  refine ⟨.tuple #[.int .i64 s, .int .i64 m, .int .i64 e], ?_, hR _ hB'⟩
  simp [results, Try.f20, go_sem, t2, t3, t4, c1, c2, c3]

set_option maxRecDepth 100000 in
set_option maxHeartbeats 2000000 in
theorem sums_in (n : Nat) (hn : 3 ≤ n) (Bs : Nat) (a : Option Addr) (cap : Nat) (zs : List Int) (hz : ∀ j : Nat, -9223372036854775808 ≤ zs[j]?.getD 0 ∧ zs[j]?.getD 0 ≤ 9223372036854775807) (hl : zs.length ≤ 60) (w : World) (hBs : Bs < w.heap.size)
    (hc : w.cell? ⟨Bs, 0, none⟩ = some (.slice a zs.length cap)) (hI : zs = [] ∨ ∃ g o, a = some ⟨g, o, none⟩ ∧ g < w.heap.size ∧ ∀ j, j < zs.length → w.cell? ⟨g, o + j, none⟩ = some (.int .i64 (zs[j]?.getD 0))) :
    CallsIn Fence.wide n Try.prog 20 #[.func (.func 28) #[] #[.pointer (some ⟨Bs, 0, none⟩)]] w fun e W' => e = .returned (.tuple #[.int .i64 (sumsGo 0 0 zs).1, .int .i64 (sumsGo 0 0 zs).2.1, .int .i64 (sumsGo 0 0 zs).2.2]) ∧ Below w.heap.size w W' := by
  have h1 : 1 ≤ n := by omega
  have hmf : ∀ (fn : Fn) (first cap : Array Value) (w : World), (Instr.makeFunc fn first cap).run Try.prog w = .ok (.func fn first cap) w := fun _ _ _ _ => rfl
  have hnf : ∀ (f : Fn) (b c : Array Value) (w : World), (binOp .eql 51 (.func f b c) Value.nilFunc).run Try.prog w = .ok (.bool false) w := fun _ _ _ _ => rfl
  refine callsIn_of_wp_marks Try.func20 rfl trivial ?_ rfl
  simp only [Try.ntmps20, List.size_toArray, List.length_cons, List.length_nil, Nat.reduceAdd, Nat.reduceSub, Array.replicate_succ, Array.replicate_zero, List.push_toArray, List.append_toArray, List.nil_append, List.cons_append]
  gi_wp2
  apply wpIn_scope_wide
  gi_wp2
  apply wpIn_label
  gi_wp2
  obtain ⟨W0, hW0⟩ : ∃ W0, ((w.alloc (Obj.cells #[Value.int IntKind.i64 0] 3)).alloc (Obj.cells #[Value.int IntKind.i64 0] 3)).alloc (Obj.cells #[Value.int IntKind.i64 0] 22) = W0 := ⟨_, rfl⟩
  have hT0 : Trio W0 w.heap.size 0 0 0 := by
    subst hW0
    exact ⟨⟨by simp [go_sem], by simp [go_sem]⟩, ⟨by simp [go_sem], by simp [go_sem]⟩, ⟨by simp [go_sem], by simp [go_sem]⟩⟩
  have hB0 : Below w.heap.size w W0 := by
    subst hW0
    exact (((Below.refl _ w).alloc (Nat.le_refl _) _).alloc (by simp) _).alloc (by simp; omega) _
  have hsz : W0.heap.size = w.heap.size + 3 := by
    subst hW0
    simp
  rw [hW0]
  clear hW0
  refine wpIn_rangeFunc_ownF rfl h1 (gf := 28) (lb := #[.pointer (some ⟨Bs, 0, none⟩)]) rfl trivial (enters_of Try.func28 (by kernel_rfl) rfl)
    (of_stops (n - 1) (by omega) Bs w.heap.size a cap zs hz hl W0 hBs (by omega) ((hB0.cell (p := ⟨Bs, 0, none⟩) hBs).trans hc) (by
      rcases hI with h | ⟨g, o, ha, hg, hcs⟩
      · exact .inl h
      · exact .inr ⟨g, o, ha, hg, fun j hj => (hB0.cell (p := ⟨g, o + j, none⟩) hg).trans (hcs j hj)⟩)) belowK_t (belowK_b (by omega)) (Below.refl _ _) (fun _ => rfl)
    (fun pre W => SumsI w pre W ∧ Below w.heap.size w W)
    (fun c pre W => SumsX w c pre W ∧ Below w.heap.size w W)
    (OwnFrom.and (Own.from (sumsI_own w) _) (ownFrom_below (Nat.le_refl _) (by omega)))
    (fun c => OwnFrom.and (Own.from (sumsX_own w c) _) (ownFrom_below (Nat.le_refl _) (by omega)))
    ⟨⟨0, 0, fun _ => rfl, ⟨by omega, by omega⟩, ⟨by omega, by omega⟩, hT0⟩, hB0⟩
    (fun x => { tmps := #[Value.func (Fn.func 28) #[] #[Value.pointer (some { block := Bs, off := 0 })], undef,
          Value.pointer (some { block := w.heap.size, off := 0 }),
          Value.pointer (some { block := w.heap.size + 1, off := 0 }),
          Value.pointer (some { block := w.heap.size + 1 + 1, off := 0 }), .int .i64 x.1,
          Value.func (Fn.func 28) #[] #[Value.pointer (some { block := Bs, off := 0 })], Value.bool false,
          Value.func (Fn.func 27) #[]
            #[Value.pointer (some { block := w.heap.size + 1 + 1, off := 0 }),
              Value.pointer (some { block := w.heap.size, off := 0 }),
              Value.pointer (some { block := w.heap.size + 1, off := 0 })],
          Value.func (Fn.func 28) #[] #[Value.pointer (some { block := Bs, off := 0 })], .int .i64 x.1, undef, undef, undef,
          undef, undef, undef, undef, undef, undef, undef, undef, undef, undef, undef, undef, undef], defers := [] }) ?assign ?body ?done ?stop
  case assign =>
    intro l x W K hK
    gi_wp2
    exact hK
  case body =>
    rintro l pre ⟨x, hx0, hx1⟩ W ⟨⟨s, m, hgo, ⟨hs0, hs1⟩, ⟨hm0, hm1⟩, ⟨c1, f1⟩, ⟨c2, f2⟩, c3, f3⟩, hB⟩ _
    have hsn := fun rest => go_snoc (x := x) hgo rest
    have hbs : w.heap.size ≤ W.heap.size := hB.size
    have hc := fun G cap W hW => rsum2_at s x ⟨by omega, by omega⟩ ⟨by omega, by omega⟩ G cap W hW
    have hput : ∀ (W1 : World), Below w.heap.size W W1 → ∀ a b c : Int, Below w.heap.size W (((W1.setCell ⟨w.heap.size, 0, none⟩ (.int .i64 a)).setCell ⟨w.heap.size + 1 + 1, 0, none⟩ (.int .i64 c)).setCell ⟨w.heap.size + 1, 0, none⟩ (.int .i64 b)) :=
      fun W1 h a b c => ((h.setCell (p := ⟨w.heap.size, 0, none⟩) (Nat.le_refl _) _).setCell (p := ⟨w.heap.size + 1 + 1, 0, none⟩) (by simp; omega) _).setCell (p := ⟨w.heap.size + 1, 0, none⟩) (by simp) _
    have HT := Lib.hid (Trio.alloc (W := W) (b := w.heap.size) (s := s) (m := m) (e := 0) ⟨⟨c1, f1⟩, ⟨c2, f2⟩, c3, f3⟩ (.cells #[.int .i64 s, .int .i64 x] 3))
    obtain ⟨⟨c1', f1'⟩, ⟨c2', f2'⟩, c3', f3'⟩ := HT.out
    have hA := Lib.hid (((Below.refl w.heap.size W).alloc hbs (.cells #[.int .i64 s, .int .i64 x] 3)))
    have h2 : TwoAt (W.alloc (.cells #[.int .i64 s, .int .i64 x] 3)) W.heap.size s x := ⟨by simp, by simp [go_sem], by simp [go_sem]⟩
    have hk := Lib.hid (KeepsOthers.alloc W (.cells #[.int .i64 s, .int .i64 x] 3))
    by_cases hneg : x < 0
    · rw [rsumR_neg hs0 hneg] at hc
      have HC := Lib.hid (hc _ 2 _ h2)
      have HS : Hid (∀ rest, sumsGo 0 0 ((pre ++ [(⟨x, hx0, hx1⟩ : I64)]).map (fun y : I64 => y.1) ++ rest) = (0, 0, 10)) := fun rest => by
        have := hsn rest
        rw [if_pos hneg] at this
        simpa using this
      clear hc hsn hgo h2
      gi_wp2_with fail
      generalize W.alloc (.cells #[.int .i64 s, .int .i64 x] 3) = W1 at *
      refine ⟨trivial, fun _ => by omega, (CallsIn.inRound l (callsIn_wide.2 HC.out)).mono ?_⟩
      rintro E w' ⟨rfl, rfl⟩
      gi_wp2
      have hKO := fun a b c => hk.out.trans ((KeepsOthers.setCell W1 ⟨w.heap.size, 0, none⟩ (.int .i64 a)).trans ((KeepsOthers.setCell _ ⟨w.heap.size + 1 + 1, 0, none⟩ (.int .i64 b)).trans (KeepsOthers.setCell _ ⟨w.heap.size + 1, 0, none⟩ (.int .i64 c))))
      have hBf := fun a b c => hput W1 hA.out a b c
      exact ⟨hKO _ _ _, ⟨10, rfl, HS.out, HT.out.put 0 0 10⟩, hB.trans (hBf 0 0 10)⟩
    by_cases hfit : s + x ≤ 9223372036854775807
    · rw [rsumR_fit hs0 hs1 (by omega) hfit] at hc
      have HC := Lib.hid (hc _ 2 _ h2)
      have HS : Hid (∀ rest, sumsGo 0 0 ((pre ++ [(⟨x, hx0, hx1⟩ : I64)]).map (fun y : I64 => y.1) ++ rest) = sumsGo (s + x) (max m x) rest) := fun rest => by
        have := hsn rest
        rw [if_neg hneg, if_pos hfit] at this
        simpa using this
      clear hc hsn hgo h2
      gi_wp2_with fail
      generalize W.alloc (.cells #[.int .i64 s, .int .i64 x] 3) = W1 at *
      refine ⟨trivial, fun _ => by omega, (CallsIn.inRound l (callsIn_wide.2 HC.out)).mono ?_⟩
      rintro E w' ⟨rfl, rfl⟩
      gi_wp2
      have hKO := fun a b c => hk.out.trans ((KeepsOthers.setCell W1 ⟨w.heap.size, 0, none⟩ (.int .i64 a)).trans ((KeepsOthers.setCell _ ⟨w.heap.size + 1 + 1, 0, none⟩ (.int .i64 b)).trans (KeepsOthers.setCell _ ⟨w.heap.size + 1, 0, none⟩ (.int .i64 c))))
      have hBf := fun a b c => hput W1 hA.out a b c
      exact ⟨hKO _ _ _, hBf (s + x) (max m x) 0, ⟨s + x, max m x, HS.out, ⟨by omega, hfit⟩, ⟨by omega, by omega⟩, HT.out.put (s + x) (max m x) 0⟩, hB.trans (hBf (s + x) (max m x) 0)⟩
    · rw [rsumR_over hs0 hs1 (by omega) hfit] at hc
      have HC := Lib.hid (hc _ 2 _ h2)
      have HS : Hid (∀ rest, sumsGo 0 0 ((pre ++ [(⟨x, hx0, hx1⟩ : I64)]).map (fun y : I64 => y.1) ++ rest) = (0, 0, 11)) := fun rest => by
        have := hsn rest
        rw [if_neg hneg, if_neg hfit] at this
        simpa using this
      clear hc hsn hgo h2
      gi_wp2_with fail
      generalize W.alloc (.cells #[.int .i64 s, .int .i64 x] 3) = W1 at *
      refine ⟨trivial, fun _ => by omega, (CallsIn.inRound l (callsIn_wide.2 HC.out)).mono ?_⟩
      rintro E w' ⟨rfl, rfl⟩
      gi_wp2
      have hKO := fun a b c => hk.out.trans ((KeepsOthers.setCell W1 ⟨w.heap.size, 0, none⟩ (.int .i64 a)).trans ((KeepsOthers.setCell _ ⟨w.heap.size + 1 + 1, 0, none⟩ (.int .i64 b)).trans (KeepsOthers.setCell _ ⟨w.heap.size + 1, 0, none⟩ (.int .i64 c))))
      have hBf := fun a b c => hput W1 hA.out a b c
      exact ⟨hKO _ _ _, ⟨11, rfl, HS.out, HT.out.put 0 0 11⟩, hB.trans (hBf 0 0 11)⟩
  case done =>
    rintro D ys W hD hys ⟨⟨s, m, hgo, ⟨hs0, hs1⟩, ⟨hm0, hm1⟩, hT⟩, hB⟩ hK
    have HG : Hid (sumsGo 0 0 zs = (s, m, 0)) := by
      have := hgo []
      rw [hys, List.append_nil] at this
      exact this
    have HT := Lib.hid hT
    obtain ⟨⟨c1, f1⟩, ⟨c2, f2⟩, c3, f3⟩ := hT
    gi_wp2
    refine wpIn_wide.2 ?_
    go_region
    have hK' := ((KeepsOthers.setCell W ⟨w.heap.size, 0, none⟩ (.int .i64 s)).trans ((KeepsOthers.setCell _ ⟨w.heap.size + 1, 0, none⟩ (.int .i64 m)).trans ((KeepsOthers.setCell _ ⟨w.heap.size + 1 + 1, 0, none⟩ (.int .i64 0)).trans (KeepsOthers.drew _)))).same D _ hK rfl
    have hB' := (((hB.setCell (p := ⟨w.heap.size, 0, none⟩) (Nat.le_refl _) (.int .i64 s)).setCell (p := ⟨w.heap.size + 1, 0, none⟩) (by simp) (.int .i64 m)).setCell (p := ⟨w.heap.size + 1 + 1, 0, none⟩) (by simp; omega) (.int .i64 0)).drew
    have HT' := HT.out.back
    gi_wp2
    refine sums_leaves n D hn w _ _ s m 0 HT' hB' (by omega) hK' rfl rfl rfl _ ?_
    intro W' hW'
    exact ⟨by rw [HG.out], hW'⟩
  case stop =>
    rintro D c pre W hD ⟨rest, hpre⟩ ⟨⟨k, rfl, hgo, hT⟩, hB⟩ hK
    have HG : Hid (sumsGo 0 0 zs = (0, 0, k)) := by
      have := hgo rest
      rw [hpre] at this
      exact this
    have HT := Lib.hid hT
    obtain ⟨⟨c1, f1⟩, ⟨c2, f2⟩, c3, f3⟩ := hT
    gi_wp2
    refine wpIn_wide.2 ?_
    go_region
    have hK' := ((KeepsOthers.setCell W ⟨w.heap.size, 0, none⟩ (.int .i64 0)).trans ((KeepsOthers.setCell _ ⟨w.heap.size + 1, 0, none⟩ (.int .i64 0)).trans ((KeepsOthers.setCell _ ⟨w.heap.size + 1 + 1, 0, none⟩ (.int .i64 k)).trans (KeepsOthers.drew _)))).same D _ hK rfl
    have hB' := (((hB.setCell (p := ⟨w.heap.size, 0, none⟩) (Nat.le_refl _) (.int .i64 0)).setCell (p := ⟨w.heap.size + 1, 0, none⟩) (by simp) (.int .i64 0)).setCell (p := ⟨w.heap.size + 1 + 1, 0, none⟩) (by simp; omega) (.int .i64 k)).drew
    have HT' := HT.out.back
    gi_wp2
    refine sums_leaves n D hn w _ _ 0 0 k HT' hB' (by omega) hK' rfl rfl rfl _ ?_
    intro W' hW'
    exact ⟨by rw [HG.out], hW'⟩

/-- ratio.Sums over the law's iterator, for every list of up to 60 ints. -/
theorem sums_any (Bs : Nat) (a : Option Addr) (cap : Nat) (zs : List Int) (hz : ∀ z ∈ zs, Is64 z) (hl : zs.length ≤ 60) (w : World) (hBs : Bs < w.heap.size)
    (hc : w.cell? ⟨Bs, 0, none⟩ = some (.slice a zs.length cap)) (hI : RowI w a zs) :
    Calls Try.prog 20 #[.func (.func 28) #[] #[.pointer (some ⟨Bs, 0, none⟩)]] w fun e W' => e = .returned (.tuple #[.int .i64 (sumsGo 0 0 zs).1, .int .i64 (sumsGo 0 0 zs).2.1, .int .i64 (sumsGo 0 0 zs).2.2]) ∧ Below w.heap.size w W' := by
  refine callsIn_wide.1 (sums_in 3 (Nat.le_refl _) Bs a cap zs ?_ hl w hBs hc ?_)
  · intro j
    by_cases h : j < zs.length
    · rw [List.getElem?_eq_getElem h]
      exact hz _ (List.getElem_mem _)
    · rw [List.getElem?_eq_none (by omega)]
      exact ⟨by decide, by decide⟩
  · rcases hI with h | ⟨g, o, ha, hg, hcs⟩
    · exact .inl h
    · refine .inr ⟨g, o, ha, hg, fun j hj => ?_⟩
      rw [← List.getD_eq_getElem?_getD]
      exact hcs j hj

/-- ratio.Sums of nil. -/
theorem sums_nil (w : World) :
    Calls Try.prog 20 #[.nilFunc] w fun e W' => e = .returned (.tuple #[.int .i64 0, .int .i64 0, .int .i64 0]) ∧ Below w.heap.size w W' := by
  have hnf : ∀ (w : World), (binOp .eql 51 Value.nilFunc Value.nilFunc).run Try.prog w = .ok (.bool true) w := fun _ => rfl
  go_enter Try.func20, Try.ntmps20
  go_wp2
  go_step3
  go_wp2
  rw [Exit.noGoto_ret]
  refine bodyPost_ret (v := .tuple #[.int .i64 0, .int .i64 0, .int .i64 0]) (by simp [results, Try.f20, go_sem]) rfl ⟨rfl, ?_⟩
  exact (((Below.refl _ _).alloc (Nat.le_refl _) _).alloc (by simp) _).alloc (by simp; omega) _
end Go.Proofs.Ythindhclcdbnfaa
