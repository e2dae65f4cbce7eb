/-
  NumCompare: what its walk stands on.
-/
import Derived.Test.YtmbkmljglajenaaOrder
import Derived.Test.YtmbkmljglajenaaAwake
import Derived.Lib.SmallJoins
import Derived.Deep.RegionWith
namespace Go.Proofs.Ytmbkmljglajenaa
open Go.RowKit
set_option linter.unusedVariables false
set_option linter.unusedSimpArgs false

/-- A number of the law's range. -/
def InT (a : Int) : Prop := 0 ≤ a ∧ a ≤ 1099511627776

/-- num.Wide.Less, with the two blocks that it makes. -/
theorem wless_new (ah al bh bl : Int) (w : World) :
    Calls Try.prog 26 #[.agg #[.int .u64 ah, .int .u64 al], .agg #[.int .u64 bh, .int .u64 bl]] w fun e w' => e = .returned (.bool (ltW ah al bh bl)) ∧ ∃ c1 c2, w' = (w.alloc (.cells c1 39)).alloc (.cells c2 39) := by
  by_cases h : ah = bh
  · have e : ltW ah al bh bl = decide (al < bl) := if_pos h
    rw [e]
    clear e
    subst h
    go_enter Try.func26, Try.ntmps26
    go_wp2
    go_ret
    exact ⟨rfl, _, _, rfl⟩
  · have e : ltW ah al bh bl = decide (ah < bh) := if_neg h
    rw [e]
    clear e
    have hb : (ah != bh) = true := by simp [h]
    clear h
    go_enter Try.func26, Try.ntmps26
    go_wp2
    go_ret
    exact ⟨rfl, _, _, rfl⟩

/-- What the law's own three blocks hold, while callees make blocks behind them. -/
def Hold (w W : World) (a b c ah al bh bl : Int) : Prop :=
  w.heap.size + 2 < W.heap.size ∧ Below w.heap.size w W ∧
  (W.cell? ⟨w.heap.size, 0, none⟩ = some (.int .i64 a) ∧ W.cell? ⟨w.heap.size, 1, none⟩ = some (.int .i64 b) ∧ W.cell? ⟨w.heap.size, 2, none⟩ = some (.int .i64 c)) ∧
  (W.cell? ⟨w.heap.size + 1, 0, none⟩ = some (.int .u64 ah) ∧ W.cell? ⟨w.heap.size + 1, 1, none⟩ = some (.int .u64 al)) ∧
  (W.cell? ⟨w.heap.size + 1 + 1, 0, none⟩ = some (.int .u64 bh) ∧ W.cell? ⟨w.heap.size + 1 + 1, 1, none⟩ = some (.int .u64 bl))
theorem Hold.next {w W W' : World} {a b c ah al bh bl : Int} (h : Hold w W a b c ah al bh bl) (hb : Below W.heap.size W W') : Hold w W' a b c ah al bh bl := by
  obtain ⟨hz, hB, ⟨p0, p1, p2⟩, ⟨q0, q1⟩, ⟨r0, r1⟩⟩ := h
  have hk : ∀ g o, g < w.heap.size + 3 → W'.cell? ⟨g, o, none⟩ = W.cell? ⟨g, o, none⟩ := fun g o hg => hb.cell (p := ⟨g, o, none⟩) (by show g < W.heap.size; omega)
  have hs := hb.size
  refine ⟨by omega, hB.trans (hb.mono hB.size), ⟨?_, ?_, ?_⟩, ⟨?_, ?_⟩, ⟨?_, ?_⟩⟩
  all_goals (rw [hk _ _ (by omega)]; assumption)
theorem Hold.drew {w W : World} {a b c ah al bh bl : Int} (h : Hold w W a b c ah al bh bl) : Hold w W.drew a b c ah al bh bl :=
  ⟨h.1, h.2.1.drew, h.2.2⟩
theorem Hold.drewN {w W : World} {a b c ah al bh bl : Int} (h : Hold w W a b c ah al bh bl) (n : Nat) : Hold w (W.drewN n) a b c ah al bh bl :=
  ⟨h.1, below_drewN h.2.1 n, h.2.2⟩
theorem Hold.alloc {w W : World} {a b c ah al bh bl : Int} (h : Hold w W a b c ah al bh bl) (o : Obj) : Hold w (W.alloc o) a b c ah al bh bl :=
  h.next ((Below.refl _ _).alloc (Nat.le_refl _) o)
theorem Hold.start (w : World) (a b c ah al bh bl : Int) (t1 t2 t3 : TypeId) :
    Hold w (((w.alloc (.cells #[.int .i64 a, .int .i64 b, .int .i64 c] t1)).alloc (.cells #[.int .u64 ah, .int .u64 al] t2)).alloc (.cells #[.int .u64 bh, .int .u64 bl] t3)) a b c ah al bh bl :=
  ⟨by simp, Joins.below_alloc3 _ _ _ _, ⟨by simp [go_sem], by simp [go_sem], by simp [go_sem]⟩, ⟨by simp [go_sem], by simp [go_sem]⟩, ⟨by simp [go_sem], by simp [go_sem]⟩⟩

/-- A cell that is there stays behind a new block. -/
theorem cell_stays {W : World} {p : Addr} {v : Value} {o : Obj} (h : W.cell? p = some v) : (W.alloc o).cell? p = some v := by
  have hlt : p.block < W.heap.size := by
    rcases Nat.lt_or_ge p.block W.heap.size with h1 | h1
    · exact h1
    · unfold World.cell? at h
      rw [Array.getElem?_eq_none h1] at h
      cases h
  exact (World.cell?_alloc_lt W o p hlt).trans h

theorem cell_drew {W : World} {p : Addr} {v : Value} (h : W.cell? p = some v) : W.drew.cell? p = some v := h
theorem cell_drewN {W : World} {p : Addr} {v : Value} {n : Nat} (h : W.cell? p = some v) : (W.drewN n).cell? p = some v := h

/-- A goal that is shown by a side proof. -/
def Quietly (p : Prop) : Prop := p
theorem Quietly.out {p : Prop} (h : Quietly p) : p := h
theorem quietly_true {p : Prop} (h : p) : Quietly p = True := eq_true h

/-- A new block of two cells is read behind a callee. -/
theorem keep_new {W W' : World} {x y : Value} {t : TypeId} (hb : Below (W.alloc (.cells #[x, y] t)).heap.size (W.alloc (.cells #[x, y] t)) W') :
    W.heap.size < W'.heap.size ∧ W'.cell? ⟨W.heap.size, 0, none⟩ = some x ∧ W'.cell? ⟨W.heap.size, 1, none⟩ = some y := by
  have hs := hb.size
  simp at hs
  refine ⟨by omega, ?_, ?_⟩
  · rw [hb.cell (p := ⟨W.heap.size, 0, none⟩) (by simp)]; simp [go_sem]
  · rw [hb.cell (p := ⟨W.heap.size, 1, none⟩) (by simp)]; simp [go_sem]

theorem if_free {o : Oper} {y : Nat → Option Bool} {X : Prop} {v : Value} (hg : o.guard = none) (h : X) : if Region.wanted o y = true then X else v = undef := by
  unfold Region.wanted
  rw [hg]
  exact h
theorem if_wanted {o : Oper} {ops : Array Oper} {t : Array Value} {X : Prop} {v : Value} (j k : Nat) (c : Bool) (hg : o.guard = some (j, c)) (hd : (ops[j]?).bind (·.dst) = some k) (ht : t[k]? = some (.bool c)) (h : X) :
    if Region.wanted o (yielded ops t) = true then X else v = undef := by
  unfold Region.wanted yielded
  rw [hg]
  simp only [hd, Option.bind_some, ht]
  rw [if_pos (by simp)]
  exact h
theorem if_unwanted {o : Oper} {ops : Array Oper} {t : Array Value} {X : Prop} (j k : Nat) (c : Bool) (hg : o.guard = some (j, !c)) (hd : (ops[j]?).bind (·.dst) = some k) (ht : t[k]? = some (.bool c)) :
    if Region.wanted o (yielded ops t) = true then X else undef = undef := by
  unfold Region.wanted yielded
  rw [hg]
  simp only [hd, Option.bind_some, ht]
  rw [if_neg (by cases c <;> decide)]
  trivial
theorem upon_of {P : Program} {o : Oper} {a : Act} {K : Act → World → Prop} {Q : Exit → Act → World → Prop} {r : Result Next} {v : Value} {w : World} (h : r = .ok (.value v) w) (hk : K (a.put o.dst v) w) : Oper.upon P o a K Q r := by
  subst h
  exact hk
theorem upon_call {P : Program} {o : Oper} {a : Act} {K : Act → World → Prop} {Q : Exit → Act → World → Prop} {r : Result Next} (f : FuncId) (args : Array Value) {v : Value} {w : World} (h : r = .ok (.enter f args) w)
    (hk : Calls P f args w fun e w' => e = .returned v ∧ K (a.put o.dst v) w') : Oper.upon P o a K Q r := by
  subst h
  refine hk.mono ?_
  rintro e w' ⟨rfl, h⟩
  exact h
theorem load_wide (g : Nat) (x y : Int) (W : World) (h1 : W.cell? ⟨g, 0, none⟩ = some (.int .u64 x)) (h2 : W.cell? ⟨g, 1, none⟩ = some (.int .u64 y)) :
    (Sem.run Try.prog (do let v ← Instr.loadAt 39 (Value.pointer (some ⟨g, 0, none⟩)); pure (Next.value v)) W : Result Next) = .ok (.value (.agg #[.int .u64 x, .int .u64 y])) W := by
  go_simp
theorem run_less (fa : Act) (fw : World) (s t : Nat) (x y : Value) (e1 : fa.tmps[s]? = some x) (e2 : fa.tmps[t]? = some y) :
    (Sem.run Try.prog (do let d ← resolve fa.eval { callee := Callee.value (Operand.func 26), args := #[Operand.tmp s, Operand.tmp t], argTypes := #[39, 39] } 4; invoke d.target d.args) fw : Result Next) = .ok (.enter 26 #[x, y]) fw := by
  go_simp
theorem ltW_asym {ah al bh bl : Int} (h : ltW ah al bh bl = true) : ltW bh bl ah al = false ∧ ((ah == bh) = false ∨ (al == bl) = false) := by
  unfold ltW at *
  by_cases e : ah = bh
  · rw [if_pos e] at h
    rw [if_pos e.symm]
    simp at h ⊢
    omega
  · rw [if_neg e] at h
    rw [if_neg (fun h => e h.symm)]
    simp at h ⊢
    omega
theorem ltW_eq {ah al bh bl : Int} (h1 : ltW ah al bh bl = false) (h2 : ltW bh bl ah al = false) : (ah == bh) = true ∧ (al == bl) = true := by
  unfold ltW at *
  by_cases e : ah = bh
  · rw [if_pos e] at h1
    rw [if_pos e.symm] at h2
    simp at h1 h2 ⊢
    omega
  · rw [if_neg e] at h1
    rw [if_neg (fun h => e h.symm)] at h2
    simp at h1 h2
    omega
theorem bne_swap {x y : Int} : (x == y) = (y == x) := by
  by_cases h : x = y
  · subst h; rfl
  · have h' : ¬ y = x := fun e => h e.symm
    rw [beq_eq_false_iff_ne.2 h, beq_eq_false_iff_ne.2 h']
/-- What stands while region 13 runs: the law's blocks, and those of the two sums. -/
def Side (w : World) (a b c ah al bh bl : Int) (g4 g5 : Nat) (hh lo : Int) (W : World) : Prop :=
  Hold w W a b c ah al bh bl ∧ (W.cell? ⟨g4, 0, none⟩ = some (.int .u64 hh) ∧ W.cell? ⟨g4, 1, none⟩ = some (.int .u64 lo)) ∧ (W.cell? ⟨g5, 0, none⟩ = some (.int .u64 hh) ∧ W.cell? ⟨g5, 1, none⟩ = some (.int .u64 lo))
theorem two_stay {W W' : World} {g : Nat} {x y : Int} (h : W.cell? ⟨g, 0, none⟩ = some (.int .u64 x) ∧ W.cell? ⟨g, 1, none⟩ = some (.int .u64 y)) (hb : Below W.heap.size W W') :
    W'.cell? ⟨g, 0, none⟩ = some (.int .u64 x) ∧ W'.cell? ⟨g, 1, none⟩ = some (.int .u64 y) := by
  have hlt : g < W.heap.size := World.block_lt_of_cell? W ⟨g, 0, none⟩ h.1
  exact ⟨(hb.cell (p := ⟨g, 0, none⟩) hlt).trans h.1, (hb.cell (p := ⟨g, 1, none⟩) hlt).trans h.2⟩
theorem Side.next {w : World} {a b c ah al bh bl : Int} {g4 g5 : Nat} {hh lo : Int} {W W' : World} (h : Side w a b c ah al bh bl g4 g5 hh lo W) (hb : Below W.heap.size W W') : Side w a b c ah al bh bl g4 g5 hh lo W' :=
  ⟨h.1.next hb, two_stay h.2.1 hb, two_stay h.2.2 hb⟩

end Go.Proofs.Ytmbkmljglajenaa
