/-
  HeapCopies: the law's walk.
-/
import Derived.Test.YtdmdebelcklfhaaOpsI
import Derived.Test.YtdmdebelcklfhaaAlk
import Derived.Maps.AppendAt
import Derived.Laws.OwnMore
import Derived.Deep.RegionLaw
import Derived.Deep.DeepCutAuto
import Derived.Deep.CutBlock
namespace Go.Proofs.Ytdmdebelcklfhaa
open Go.RowKit Go.Sort Go.Shelf Go.Maps
set_option linter.unusedVariables false
set_option linter.unusedSimpArgs false
attribute [local go_sem] Oper.semAt_some

/-- A pointer to the reference in a block of its own. -/
def PtrAt (W : World) (pb rf : Nat) : Prop := W.heap[pb]? = some (.cells #[.pointer (some ⟨rf, 0, none⟩)] 30 (0, 0))
theorem PtrAt.cell {W : World} {pb rf : Nat} (h : PtrAt W pb rf) : W.cell? ⟨pb, 0, none⟩ = some (.pointer (some ⟨rf, 0, none⟩)) := by
  unfold PtrAt at h
  simp [World.cell?, h]

/-- A call leaves blocks of other types alone. -/
theorem Did.obj {B : Nat} {W W' : World} {hb mb : Nat} {ro : Option Nat} {rf : Nat} {L : List Ent} (h : Did B W hb mb ro rf L W') (hp : Pr B W hb mb ro rf L) {b : Nat} {o : Obj} (ho : W.heap[b]? = some o) (ht : ∃ t, tyOf o = some t ∧ t ≠ 81 ∧ t ≠ 87 ∧ t ≠ 33) : W'.heap[b]? = some o := by
  obtain ⟨ro', L', _, _, k, _⟩ := h
  obtain ⟨t, e, t1, t2, t3⟩ := ht
  refine (k.block b (Array.getElem?_eq_some_iff.1 ho).1 (fun hm => ?_)).trans ho
  rcases hm with hm | rfl
  · obtain ⟨o', ho', ht'⟩ := hp.heap.kinds b hm
    rw [ho] at ho'
    cases ho'
    rw [e] at ht'
    rcases ht' with x | x | x
    · cases x; exact t1 rfl
    · cases x
    · cases x; exact t2 rfl
  · obtain ⟨a, cap, h1, _⟩ := hp.ref
    rw [ho] at h1
    cases h1
    cases e
    exact t3 rfl

theorem Kept.of_below {W W' : World} (h : Below W.heap.size W W') : Kept (fun _ => False) W W' := ⟨h.os, h.tape, h.output, h.size, fun k hk _ => h.block k hk⟩
theorem Pr.same {B : Nat} {W W' : World} {hb mb : Nat} {ro : Option Nat} {rf : Nat} {L : List Ent} (h : Pr B W hb mb ro rf L) (k : Kept (fun _ => False) W W') : Pr B W' hb mb ro rf L :=
  ⟨h.heap.kept k (fun _ _ x => x), h.ref.kept k (fun _ _ x => x.elim), h.sorted, h.diff, h.ok, Nat.le_trans h.base k.size, h.rb⟩

/-- An append of which the run is known, as one step of a region that draws. -/
theorem step_run {P : Program} {ops : Array Oper} {o : Oper} {a : Act} {w w1 : World} {K : Act → World → Prop} {Q : Exit → Act → World → Prop} {E : Prop} {v u r : Value}
    (hg : o.guard = none) (s x : Operand) (t : TypeId) (hop : o.op = Op.call { callee := Callee.builtin Builtin.append, args := #[s, x], argTypes := #[t, t] })
    (hs : a.eval s = v) (hx : a.eval x = u) (hrun : (Builtin.append_ #[t, t] o.type #[v, u]).run P w = .ok r w1) (hK : K (a.put o.dst r) w1) :
    if Region.wanted o (yielded ops a.tmps) = true then Oper.wp P o a w K Q else E := by
  have hw : Region.wanted o (yielded ops a.tmps) = true := by simp [Region.wanted, hg]
  rw [if_pos hw]
  unfold Oper.wp
  simp [execOp, hop, resolve, invoke, builtin, hs, hx, hrun, Result.andThen]
  exact hK

/-- The reference's row, copied. -/
theorem ref_copied {B : Nat} {W : World} {rf : Nat} {L : List Ent} (h : RefIs B W rf L) (hB : B ≤ W.heap.size) (hl : L.length ≤ 1099511627776) :
    ∃ a cap v w', W.cell? ⟨rf, 0, none⟩ = some (.slice a L.length cap) ∧ (Builtin.append_ #[31, 31] 31 #[.slice none 0 0, .slice a L.length cap]).run Try.prog W = .ok v w' ∧ w'.ownsRow B 36 2 v L.length (flatR L) ∧ W.grownBy w' none ∧ ∃ a' c', v = .slice a' L.length c' := by
  obtain ⟨i0, hi0, hz0, hz1, hz2⟩ := info_parts (P := Try.prog) (e := 36) (z := .agg #[.int .i64 0, .int .i64 0]) (size := 2) (bytes := 16) (by kernel_rfl)
  obtain ⟨a, cap, h1, h2⟩ := h
  have hc : W.cell? ⟨rf, 0, none⟩ = some (.slice a L.length cap) := by simp [World.cell?, h1]
  have hn : W.ownsRow B 36 2 (.slice none 0 0) 0 [] := ⟨rfl, .inl ⟨rfl, rfl⟩⟩
  have h2' := h2
  rcases h2.2 with ⟨e, hz⟩ | ⟨g, c, cur, e, _, h3, h4, h5, h6, h7⟩
  · simp only [Value.slice.injEq] at e
    obtain ⟨rfl, _, rfl⟩ := e
    have hL : L = [] := List.eq_nil_of_length_eq_zero hz
    subst hL
    exact ⟨none, 0, .slice none 0 0, W, hc, run_append_owned_none (P := Try.prog) (w := W) B 31 31 36 i0 2 Try.underlying31 hi0 _ 0 [] hn, ⟨rfl, .inl ⟨rfl, rfl⟩⟩, ⟨rfl, rfl, rfl, Nat.le_refl _, fun _ _ _ => rfl⟩, none, 0, rfl⟩
  · simp only [Value.slice.injEq] at e
    obtain ⟨rfl, _, rfl⟩ := e
    obtain ⟨v, w', r1, r2, r3, _, _⟩ := run_append_own_at (P := Try.prog) (w := W) B 31 31 36 i0 (.agg #[.int .i64 0, .int .i64 0]) 2 16 Try.underlying31 hi0 hz0 hz1 hz2 rfl (by decide) (.slice none 0 0) 0 [] hn ⟨g, 0, none⟩ L.length cap (flatR L) (len_flatR L) (fun j u hj => by
      rw [Addr.add_lit]
      have hlt : j < L.length * 2 := by rw [← len_flatR]; exact (List.getElem?_eq_some_iff.1 hj).1
      have := h2'.cellAt j (by omega)
      simpa [hj] using this) (flatR_one L) (by unfold maxLen; omega) (by omega) hB
    rw [Nat.zero_add, List.nil_append] at r2
    obtain ⟨a', c', hv⟩ := own_form r2
    exact ⟨_, _, v, w', hc, r1, r2, r3, a', c', hv⟩

set_option maxHeartbeats 1000000 in
set_option maxRecDepth 20000 in
theorem copies_long (a a2 : Option Addr) (n cap m cap2 : Nat) (h60 : 60 < n ∨ 60 < m) (w : World) :
    Calls Try.prog 4 #[.slice a n cap, .slice a2 m cap2] w fun E w' => E = .returned (.bool true) ∧ Below w.heap.size w w' := by
  obtain ⟨W0, hW0⟩ : ∃ W0, w.alloc (.cells #[.bool false] 4) = W0 := ⟨_, rfl⟩
  have g0 : Grew w W0 := by rw [← hW0]; exact (Grew.refl w).alloc _
  have b0 : BitAt W0 w.heap.size false := by rw [← hW0]; exact heap_alloc_new _ _
  have C0 := Lib.hid (hs_new w.heap.size W0 g0.size)
  have HG := Lib.hid (And.intro g0 b0)
  have HW := Lib.hid hW0
  clear g0 b0 hW0
  have C1 : ∀ W, Hid (Calls Try.prog 13 #[.slice a n cap] W fun e w' => e = .returned (.bool (decide (n ≤ 60))) ∧ w' = W) := fun W => few3_any a n cap W
  have C2 : ∀ W, Hid (Calls Try.prog 13 #[.slice a2 m cap2] W fun e w' => e = .returned (.bool (decide (m ≤ 60))) ∧ w' = W) := fun W => few3_any a2 m cap2 W
  have CW : ∀ W, Hid (Calls Try.prog 14 #[] W fun e w' => e = .returned (.bool true) ∧ Below W.heap.size W w') := fun W => awake3 W
  have fin : ∀ (w0 w2 : World), Grew W0 w0 → Below w0.heap.size w0 w2 → w2.cell? ⟨w.heap.size, 0, none⟩ = some (.bool false) ∧ w2.frozen? ⟨w.heap.size, 0, none⟩ = false ∧ Below w.heap.size w (w2.setCell ⟨w.heap.size, 0, none⟩ (.bool true)) ∧ (w2.setCell ⟨w.heap.size, 0, none⟩ (.bool true)).cell? ⟨w.heap.size, 0, none⟩ = some (.bool true) := fun w0 w2 g b => by
    have hlt : w.heap.size < W0.heap.size := (Array.getElem?_eq_some_iff.1 HG.out.2).1
    have bb : BitAt w2 w.heap.size false := (b.block _ (Nat.lt_of_lt_of_le hlt g.size)).trans ((g.block hlt).trans HG.out.2)
    have gg := HG.out.1.trans g
    have hb2 : Below w.heap.size w w2 := gg.below.trans (b.mono gg.size)
    refine ⟨bb.cell.1, bb.cell.2, hb2.trans (((Kept.refl (fun i => i = w.heap.size) w2).setCell (p := ⟨w.heap.size, 0, none⟩) (.inl rfl) _).below hb2.size (fun k e => by omega)), (bb.set true).cell.1⟩
  have FIN := Lib.hid fin
  clear fin
  refine calls_marks Try.func4 rfl ?_
  simp only [Try.ntmps4, List.size_toArray, List.length_cons, List.length_nil, Nat.reduceAdd, Nat.reduceSub, Array.replicate_succ, Array.replicate_zero, List.push_toArray, List.append_toArray, List.nil_append, List.cons_append]
  by_cases hn : n ≤ 60
  · have hm : ¬ m ≤ 60 := by omega
    rw [decide_eq_true hn] at C1
    rw [decide_eq_false hm] at C2
    go_wp2_with (first | (go_at_call 11; rw [HW.out]; (with_reducible refine C0.out.mono ?_); rintro e w0 ⟨hb, mb, rfl, h0, g0, _, _⟩; have G0 := Lib.hid g0; clear h0 g0) | (go_at_call 13; (with_reducible refine (C1 _).out.mono ?_); rintro e w1 ⟨rfl, hw1⟩; subst hw1) | (go_at_call 13; (with_reducible refine (C2 _).out.mono ?_); rintro e w1 ⟨rfl, hw1⟩; subst hw1) | (go_at_call 14; (with_reducible refine (CW _).out.mono ?_); rintro e w2 ⟨rfl, b2⟩; obtain ⟨f1, f2, f3, f4⟩ := FIN.out _ w2 G0.out b2; have F3 := Lib.hid (And.intro f3 f4); clear f3 f4))
    exact ⟨.bool true, by simp [results, Try.f4, go_sem, F3.out.2], rfl, F3.out.1⟩
  · rw [decide_eq_false hn] at C1
    go_wp2_with (first | (go_at_call 11; rw [HW.out]; (with_reducible refine C0.out.mono ?_); rintro e w0 ⟨hb, mb, rfl, h0, g0, _, _⟩; have G0 := Lib.hid g0; clear h0 g0) | (go_at_call 13; (with_reducible refine (C1 _).out.mono ?_); rintro e w1 ⟨rfl, hw1⟩; subst hw1) | (go_at_call 14; (with_reducible refine (CW _).out.mono ?_); rintro e w2 ⟨rfl, b2⟩; obtain ⟨f1, f2, f3, f4⟩ := FIN.out _ w2 G0.out b2; have F3 := Lib.hid (And.intro f3 f4); clear f3 f4))
    exact ⟨.bool true, by simp [results, Try.f4, go_sem, F3.out.2], rfl, F3.out.1⟩

theorem RefIs.kept2 {B : Nat} {w w' : World} {rf : Nat} {L : List Ent} {S : Nat → Prop} (h : RefIs B w rf L) (k : Kept S w w') (hs : ∀ b o, S b → w.heap[b]? = some o → b ≠ rf ∧ tyOf o ≠ some 36) : RefIs B w' rf L := by
  obtain ⟨a, cap, h1, h2⟩ := h
  refine ⟨a, cap, (k.block rf (Array.getElem?_eq_some_iff.1 h1).1 (fun s => (hs rf _ s h1).1 rfl)).trans h1, own_kept h2 (fun g e => ?_)⟩
  refine k.block g (own_lt h2 g e) (fun s => ?_)
  rcases h2.2 with ⟨e2, _⟩ | ⟨g', c, cur, e2, _, h3, _⟩
  · rw [e2] at e; cases e
  · rw [e2] at e
    cases e
    exact (hs _ _ s h3).2 rfl
theorem SeqAt.kept {B c : Nat} {S : List Ent} {w w' : World} {T : Nat → Prop} (h : SeqAt B c S w) (k : Kept T w w') (ht : ∀ b o, T b → B ≤ b → w.heap[b]? = some o → tyOf o ≠ some 79 ∧ tyOf o ≠ some 87) : SeqAt B c S w' := by
  obtain ⟨hB, rv, hc, hr⟩ := h
  refine ⟨hB, rv, (k.block c (Array.getElem?_eq_some_iff.1 hc).1 (fun s => (ht c _ s hB hc).1 rfl)).trans hc, ?_⟩
  rcases hr with hr | ⟨rb, cap, h1, h2, h3, h4⟩
  · exact .inl hr
  · refine .inr ⟨rb, cap, h1, h2, h3, h4.kept (k.block rb h4.lt (fun s => ?_))⟩
    obtain ⟨⟨cur, hcur, _⟩, _⟩ := h4
    exact (ht rb _ s h1 hcur).2 rfl

/-- The blocks that the second loop turns. -/
abbrev Two7 (hb mb : Nat) (ro : Option Nat) (ob : Nat) : Nat → Prop := fun b => Mine hb mb ro b ∨ b = ob
/-- The second loop. -/
def Cp2 (w wc : World) (hb mb : Nat) (ro : Option Nat) (ob j : Nat) (W : World) : Prop :=
  ∃ ro' L2, Pr w.heap.size W hb mb ro' ob L2 ∧ L2.length ≤ 60 + j ∧ (∀ b, ro' = some b → ro = some b ∨ wc.heap.size ≤ b) ∧ Kept (Two7 hb mb ro ob) wc W

/-- What lies still through the second loop: the copy beside the reference, the iterator's row, and two blocks. -/
structure Still7 (B : Nat) (hc mc : Nat) (rc : Option Nat) (rf cb : Nat) (L : List Ent) (W : World) : Prop where
  pr : Pr B W hc mc rc rf L
  seq : SeqAt cb cb L W
  bit : BitAt W B false
  ptr : PtrAt W (rf + 1) rf

theorem Still7.kept {B : Nat} {hc mc : Nat} {rc : Option Nat} {rf cb : Nat} {L : List Ent} {W W' : World} {T : Nat → Prop} (h : Still7 B hc mc rc rf cb L W) (k : Kept T W W')
    (h1 : ∀ b, T b → ¬ Mine hc mc rc b) (h2 : ∀ b o, T b → W.heap[b]? = some o → b ≠ rf ∧ tyOf o ≠ some 36 ∧ tyOf o ≠ some 4 ∧ tyOf o ≠ some 30 ∧ (cb ≤ b → tyOf o ≠ some 79 ∧ tyOf o ≠ some 87)) : Still7 B hc mc rc rf cb L W' := by
  obtain ⟨p, q, r, s⟩ := h
  refine ⟨⟨p.heap.kept k (fun b hm t => h1 b t hm), p.ref.kept2 k (fun b o t ho => ⟨(h2 b o t ho).1, (h2 b o t ho).2.1⟩), p.sorted, p.diff, p.ok, Nat.le_trans p.base k.size, p.rb⟩, q.kept k (fun b o t hb ho => (h2 b o t ho).2.2.2.2 hb), ?_, ?_⟩
  · exact (k.block B (Array.getElem?_eq_some_iff.1 r).1 (fun t => (h2 B _ t r).2.2.1 rfl)).trans r
  · exact (k.block (rf + 1) (Array.getElem?_eq_some_iff.1 s).1 (fun t => (h2 _ _ t s).2.2.2.1 rfl)).trans s

/-- The first loop. -/
def Cp1 (w : World) (hb mb rf pb i : Nat) (W : World) : Prop := ∃ ro L, Pr w.heap.size W hb mb ro rf L ∧ L.length ≤ i ∧ Below w.heap.size w W ∧ BitAt W w.heap.size false ∧ PtrAt W pb rf

set_option maxHeartbeats 4000000 in
set_option maxRecDepth 100000 in
theorem copies_core (a a2 : Option Addr) (n cap m cap2 : Nat) (V V2 : Nat → Int × Int × Int) (hn : n ≤ 60) (hm : m ≤ 60) (w : World) (hO : OpsAt w a n V) (hO2 : OpsAt w a2 m V2) :
    Calls Try.prog 4 #[.slice a n cap, .slice a2 m cap2] w fun E w' => E = .returned (.bool true) ∧ Below w.heap.size w w' := by
  have mixed : Try.prog.follows .mixedOrders = true := by kernel_rfl
  have hnf : ∀ (f : Fn) (b c : Array Value) (w : World), (binOp .eql 42 (.func f b c) Value.nilFunc).run Try.prog w = .ok (.bool false) w := fun _ _ _ _ => rfl
  obtain ⟨W0, hW0⟩ : ∃ W0, w.alloc (.cells #[.bool false] 4) = W0 := ⟨_, rfl⟩
  have g0 : Grew w W0 := by rw [← hW0]; exact (Grew.refl w).alloc _
  have b0 : BitAt W0 w.heap.size false := by rw [← hW0]; exact heap_alloc_new _ _
  have C0 := Lib.hid (hs_new w.heap.size W0 g0.size)
  have HG := Lib.hid (And.intro g0 b0)
  have HW := Lib.hid hW0
  clear g0 b0 hW0
  have C1 : ∀ W, Hid (Calls Try.prog 13 #[.slice a n cap] W fun e w' => e = .returned (.bool true) ∧ w' = W) := fun W => by
    have := few3_any a n cap W
    rwa [decide_eq_true hn] at this
  have C2 : ∀ W, Hid (Calls Try.prog 13 #[.slice a2 m cap2] W fun e w' => e = .returned (.bool true) ∧ w' = W) := fun W => by
    have := few3_any a2 m cap2 W
    rwa [decide_eq_true hm] at this
  have CW : ∀ W, Hid (Calls Try.prog 14 #[] W fun e w' => e = .returned (.bool true) ∧ Below W.heap.size W w') := fun W => awake3 W
  have HO : Hid (OpsAt w a n V ∧ OpsAt w a2 m V2) := ⟨hO, hO2⟩
  clear hO hO2
  refine calls_marks Try.func4 rfl ?_
  simp only [Try.ntmps4, List.size_toArray, List.length_cons, List.length_nil, Nat.reduceAdd, Nat.reduceSub, Array.replicate_succ, Array.replicate_zero, List.push_toArray, List.append_toArray, List.nil_append, List.cons_append]
  go_wp2_with (first | (go_at_call 11; rw [HW.out]; (with_reducible refine C0.out.mono ?_); rintro e w0 ⟨hb, mb, rfl, h0, g0, _, _⟩; have G0 := Lib.hid (And.intro h0 g0); clear h0 g0) | (go_at_call 13; (with_reducible refine (C1 _).out.mono ?_); rintro e w1 ⟨rfl, hw1⟩; subst hw1) | (go_at_call 13; (with_reducible refine (C2 _).out.mono ?_); rintro e w2 ⟨rfl, hw2⟩; subst hw2))
  obtain ⟨rf, hrf⟩ : ∃ rf, w2.heap.size = rf := ⟨_, rfl⟩
  obtain ⟨W1, hW1⟩ : ∃ W1, (w2.alloc (.cells #[.slice none 0 0] 33)).alloc (.cells #[.pointer (some ⟨w2.heap.size, 0, none⟩)] 30) = W1 := ⟨_, rfl⟩
  have H1 : Hid (Cp1 w hb mb rf (rf + 1) 0 W1) := by
    obtain ⟨W1', hW1'⟩ : ∃ W1', w2.alloc (.cells #[.slice none 0 0] 33) = W1' := ⟨_, rfl⟩
    have g1 := HG.out.1.trans G0.out.2
    have ga : Grew w2 W1' := by rw [← hW1']; exact (Grew.refl _).alloc _
    have gb : Grew W1' W1 := by rw [← hW1, ← hW1']; exact (Grew.refl _).alloc _
    have hp := (pr_new G0.out.1 g1.size hW1').grew gb
    rw [hrf] at hp
    have hlt : w.heap.size < W0.heap.size := (Array.getElem?_eq_some_iff.1 HG.out.2).1
    refine ⟨none, [], hp, Nat.le_refl _, ((g1.trans ga).trans gb).below, (((G0.out.2.trans ga).trans gb).block hlt).trans HG.out.2, ?_⟩
    unfold PtrAt
    rw [← hW1, ← hrf]
    have := heap_alloc_new (w2.alloc (.cells #[.slice none 0 0] 33)) (.cells #[.pointer (some ⟨w2.heap.size, 0, none⟩)] 30)
    simpa using this
  rw [hW1, hrf]
  clear hW1 G0 HW HG C0 hrf
  go_loopg [8] n (fun gk s wr => ∃ i : Nat, s = .int .i64 i ∧ i ≤ n ∧ n - i ≤ gk ∧ Hid (Cp1 w hb mb rf (rf + 1) i wr))
  case atStart => exact ⟨0, rfl, Nat.zero_le _, Nat.le_refl _, H1.out⟩
  case round =>
    rename World => W2
    obtain ⟨i, rfl, hin, hgk, HR⟩ := hrel
    by_cases hi : i < n
    · have hi' : decide ((i : Int) < (n : Int)) = true := decide_eq_true (by omega)
      have hiz : (i : Int) < (n : Int) := by omega
      have q4 : IntKind.i64.wrap ((i : Int) + 1) = (i : Int) + 1 := by rw [IntKind.wrap_i64]; omega
      obtain ⟨ro, L, hp, hl, hb2, hbit, hptr⟩ := HR.out
      rcases HO.out.1.below hb2 with h | ⟨g, o, rfl, hg, hc⟩
      · omega
      obtain ⟨⟨c1, c2, c3⟩, hy, hx⟩ := hc i hi
      have c4 := hptr.cell
      have CD : ∀ q, Hid (Calls Try.prog 15 #[.pointer (some ⟨hb, 0, none⟩), .pointer (some ⟨rf, 0, none⟩), opV (V i).1 (V i).2.1 (V i).2.2] (W2.drewN q) fun e w' => e = .returned (.bool true) ∧ Cp1 w hb mb rf (rf + 1) (i + 1) w') := fun q => by
        have g := grewD W2 q
        have hp2 := hp.grew g
        refine (does_any w.heap.size (W2.drewN q) hb mb ro rf L hp2 (by omega) (V i).1 (V i).2.1 (V i).2.2 hy hx).mono ?_
        rintro e W3 ⟨rfl, hd⟩
        have hb3 : Below w.heap.size w (W2.drewN q) := hb2.trans (g.below.mono hb2.size)
        have hbb := hb3.trans ((hd.below hp2).mono (Nat.le_refl _))
        have x1 : BitAt W3 w.heap.size false := hd.obj hp2 (o := .cells #[.bool false] 4 (0, 0)) hbit ⟨4, rfl, by decide, by decide, by decide⟩
        have x2 : PtrAt W3 (rf + 1) rf := hd.obj hp2 (o := .cells #[.pointer (some ⟨rf, 0, none⟩)] 30 (0, 0)) hptr ⟨30, rfl, by decide, by decide, by decide⟩
        obtain ⟨ro', L', hp', hl', _, _⟩ := hd
        exact ⟨rfl, ro', L', hp', by omega, hbb, x1, x2⟩
      clear hp hl hb2 hc hy hx HR H1 hbit hptr
      generalize (V i).1 = q at *
      generalize (V i).2.1 = y' at *
      generalize (V i).2.2 = x' at *
      go_wp2_with fail
      refine plain_last 6 _ (Drawing W2) rfl rfl (by kernel_rfl) mixed (drawing_drew W2) ?_
      simp only [List.take_succ_cons, List.take_zero]
      repeat (go_big_quiet_step (fail))
      refine wpQuiet_nil ?_
      rintro _ ⟨nq, rfl⟩
      gi_wp2_with fail
      refine ⟨trivial, (callsIn_wide.2 (CD nq).out).mono ?_⟩
      rintro e W3 ⟨rfl, h3⟩
      have H3 := Lib.hid h3
      clear h3
      gi_wp2_with fail
      go_wp2_with fail
      go_roundg (n - (i + 1))
      case measure => omega
      case rel => exact ⟨i + 1, by go_num, by omega, Nat.le_refl _, (show Hid _ from H3.out)⟩
    · obtain rfl : i = n := by omega
      have hi' : decide ((i : Int) < (i : Int)) = false := decide_eq_false (by omega)
      obtain ⟨ro, L, hp, hl, hb2, hbit, hptr⟩ := HR.out
      have CC1 := Lib.hid (copy_any w.heap.size W2 hb mb ro L hp.heap hp.diff hp.ok (by omega))
      have CA : Hid (∀ W3, Kept (fun _ => False) W2 W3 → Calls Try.prog 18 #[.pointer (some ⟨hb, 0, none⟩)] W3 fun e w' => e = .returned (.func (.func 53) #[] #[.pointer (some ⟨W3.heap.size, 0, none⟩)]) ∧ SeqAt W3.heap.size W3.heap.size L w' ∧ Kept (fun _ => False) W3 w') := fun W3 k => by
        refine (hs_all (hp.heap.kept k (fun _ _ x => x)) (diff_nodup hp.diff)).mono ?_
        rintro e w' ⟨S, rfl, h1, h2, h3, h4⟩
        obtain rfl : S = L := sorted_eq h1 (sorted_of h2) hp.sorted
        exact ⟨rfl, h3, h4⟩
      have CS : Hid (∀ hc mc rc W3 W4, Hs W2.heap.size W3 hc mc rc L → Kept (fun _ => False) W2 W3 → Kept (fun _ => False) W3 W4 → W4.cell? ⟨rf + 1, 0, none⟩ = some (.pointer (some ⟨rf, 0, none⟩)) ∧ Calls Try.prog 16 #[.pointer (some ⟨hc, 0, none⟩), .pointer (some ⟨rf, 0, none⟩)] W4 fun e w' => e = .returned (.bool true) ∧ Kept (fun _ => False) W4 w') := fun hc mc rc W3 W4 h3 k3 k4 => by
        have k := k3.trans k4
        refine ⟨PtrAt.cell ((k.block _ (Array.getElem?_eq_some_iff.1 hptr).1 (fun x => x)).trans hptr), ?_⟩
        have hp4 := hp.same k
        exact same_any w.heap.size W4 hc mc rc rf L ⟨(h3.kept k4 (fun _ _ x => x)).lower hp.base, hp4.ref, hp4.sorted, hp4.diff, hp4.ok, hp4.base, hp4.rb⟩ (by omega)
      have HP : Hid (Pr w.heap.size W2 hb mb ro rf L ∧ L.length ≤ 60 ∧ Below w.heap.size w W2 ∧ BitAt W2 w.heap.size false ∧ PtrAt W2 (rf + 1) rf) := ⟨hp, by omega, hb2, hbit, hptr⟩
      clear hp hl hb2 hbit hptr HR H1
      go_upto_region 14 with (first | (go_at_call 17; (with_reducible refine CC1.out.mono ?_); rintro e W3 ⟨hc, mc, rc, rfl, h3, k3⟩; have H3 := Lib.hid (And.intro h3 k3); clear h3 k3) | (go_at_call 18; (with_reducible refine (CA.out _ H3.out.2).mono ?_); rintro e W4 ⟨rfl, h4, k4⟩; have c4 := (CS.out _ _ _ _ _ H3.out.1 H3.out.2 k4).1; have C5 := Lib.hid (CS.out _ _ _ _ _ H3.out.1 H3.out.2 k4).2; have H4 := Lib.hid (And.intro h4 k4); clear h4 k4) | (go_at_call 16; (with_reducible refine C5.out.mono ?_); rintro e W5 ⟨rfl, k5⟩; have H5 := Lib.hid k5; clear k5))
      obtain ⟨ob, hob⟩ : ∃ ob, W5.heap.size = ob := ⟨_, rfl⟩
      obtain ⟨W6, hW6⟩ : ∃ W6, W5.alloc (.cells #[.slice none 0 0] 33) = W6 := ⟨_, rfl⟩
      have g6 : Grew W5 W6 := by rw [← hW6]; exact (Grew.refl _).alloc _
      have z6 : W6.heap.size = ob + 1 := by rw [← hW6, ← hob]; simp
      have k25 : Kept (fun _ => False) W2 W5 := (H3.out.2.trans H4.out.2).trans H5.out
      have hp6 := (HP.out.1.same k25).grew g6
      have o6 : W6.heap[ob]? = some (.cells #[.slice none 0 0] 33 (0, 0)) := by rw [← hW6, ← hob]; exact heap_alloc_new _ _
      have p6 : PtrAt W6 (rf + 1) rf := by
        have hl1 := (Array.getElem?_eq_some_iff.1 HP.out.2.2.2.2).1
        exact (g6.block (Nat.lt_of_lt_of_le hl1 k25.size)).trans ((k25.block _ hl1 (fun x => x)).trans HP.out.2.2.2.2)
      obtain ⟨ra, rcap, v7, w7, rc1, happ, rown, rgrow, a7, c7, hv7⟩ := ref_copied (hp6.ref.grew (Grew.refl W6).drew) (Nat.le_trans hp6.base (Grew.refl W6).drew.size) (by have := HP.out.2.1; omega)
      subst hv7
      have d1 : W6.cell? ⟨ob, 0, none⟩ = some (.slice none 0 0) := by simp [World.cell?, o6]
      have O6 := Lib.hid o6
      have d2 := p6.cell
      have d3 : W6.cell? ⟨rf, 0, none⟩ = some (.slice ra L.length rcap) := rc1
      have o7 : w7.heap[ob]? = some (.cells #[.slice none 0 0] 33 (0, 0)) := (rgrow.block ob (by show ob < W6.heap.size; omega) (fun e => by cases e)).trans o6
      have d4 : w7.cell? ⟨ob, 0, none⟩ = some (.slice none 0 0) := by simp [World.cell?, o7]
      have d5 : w7.frozen? ⟨ob, 0, none⟩ = false := by simp [World.frozen?, o7]
      obtain ⟨W7, hW7⟩ : ∃ W7, w7.setCell ⟨ob, 0, none⟩ (.slice a7 L.length c7) = W7 := ⟨_, rfl⟩
      have H7 : Hid (RefIs w.heap.size W7 ob L ∧ Kept (fun i => i = ob) W6 W7) := by
        rw [← hW7]
        refine ⟨ref_store o7 rfl rown, ?_⟩
        have k0 : Kept (fun i => i = ob) W6 w7 := ((Kept.refl _ W6).drew).grown rgrow (fun k e => by cases e)
        exact k0.setCell (p := ⟨ob, 0, none⟩) (.inl rfl) _
      have H6 : Hid (Pr w.heap.size W6 hb mb ro rf L ∧ Kept (fun _ => False) W2 W6 ∧ Grew W5 W6 ∧ W6.heap.size = ob + 1 ∧ W5.heap.size = ob) := ⟨hp6, k25.trans (g6.kept _), g6, z6, hob⟩
      rw [hW6, hob]
      have HW7 := Lib.hid hW7
      have HWo := Lib.hid hob
      clear hp6 p6 rc1 rown rgrow o7 o6 g6 z6 k25 hW6 hob hW7
      generalize hln : L.length = ln at *
      have HLN := Lib.hid hln
      clear hln
      go_cut [] from 77 to 88 (fun wx => wx = W7)
      case first =>
        go_region_law (refine step_run rfl _ _ 31 rfl rfl rfl happ ?_)
        all_goals (rw [HW7.out]; go_wp2_with fail; go_meet; exact rfl)
      case rest =>
        subst hcut
        obtain ⟨hp6, k26, g56, z6, hob⟩ := H6.out
        have hlt2 := HP.out.1.heap.lt
        have z23 := H3.out.2.size
        have z34 := H4.out.2.size
        have z45 := H5.out.size
        have hrf2 := HP.out.1.ref.lt
        have ho6 : ∀ o, W6.heap[ob]? = some o → tyOf o = some 33 := fun o ho => by
          obtain ⟨a', c', e1, _⟩ := H7.out.1
          have hk := H7.out.2
          have : W6.heap[ob]? = some (.cells #[.slice none 0 0] 33 (0, 0)) := by
            have x : W6.cell? ⟨ob, 0, none⟩ = some (.slice none 0 0) := d1
            exact O6.out
          rw [this] at ho
          cases ho
          rfl
        have kc : Kept (fun i => i = ob) W6 wc := H7.out.2
        have prh : Pr w.heap.size wc hb mb ro ob L := ⟨hp6.heap.keptT kc (fun b o hb' ho => by subst hb'; exact ⟨_, ho6 o ho, by decide, by decide⟩), H7.out.1, hp6.sorted, hp6.diff, hp6.ok, Nat.le_trans hp6.base kc.size, by have := hp6.base; have := HP.out.1.base; omega⟩
        have st6 : Still7 w.heap.size hc mc rc rf W3.heap.size L W6 := by
          have k36 : Kept (fun _ => False) W3 W6 := (H4.out.2.trans H5.out).trans (g56.kept _)
          have k46 : Kept (fun _ => False) W4 W6 := H5.out.trans (g56.kept _)
          refine ⟨⟨(H3.out.1.kept k36 (fun _ _ x => x)).lower HP.out.1.base, hp6.ref, hp6.sorted, hp6.diff, hp6.ok, hp6.base, hp6.rb⟩, H4.out.1.kept k46 (fun _ _ x => x.elim), ?_, ?_⟩
          · exact (k26.block _ (Array.getElem?_eq_some_iff.1 HP.out.2.2.2.1).1 (fun x => x)).trans HP.out.2.2.2.1
          · exact (k26.block _ (Array.getElem?_eq_some_iff.1 HP.out.2.2.2.2).1 (fun x => x)).trans HP.out.2.2.2.2
        have st7 : Still7 w.heap.size hc mc rc rf W3.heap.size L wc := st6.kept kc (fun b e hm => by
            subst e
            obtain ⟨o, ho, ht⟩ := st6.pr.heap.kinds b hm
            have := ho6 o ho
            rw [this] at ht
            rcases ht with x | x | x <;> cases x) (fun b o e ho => by
            subst e
            rw [ho6 o ho]
            exact ⟨by omega, by decide, by decide, by decide, fun _ => by decide⟩)
        have H8 : Hid (Still7 w.heap.size hc mc rc rf W3.heap.size L wc ∧ Below w.heap.size w wc ∧ (∀ b, Two7 hb mb ro ob b → ¬ Mine hc mc rc b) ∧ (∀ b o, Two7 hb mb ro ob b → wc.heap[b]? = some o → b ≠ rf ∧ tyOf o ≠ some 36 ∧ tyOf o ≠ some 4 ∧ tyOf o ≠ some 30 ∧ (W3.heap.size ≤ b → tyOf o ≠ some 79 ∧ tyOf o ≠ some 87)) ∧ (∀ b, Two7 hb mb ro ob b → w.heap.size ≤ b)) := by
          have hbw : Below w.heap.size w W6 := HP.out.2.2.1.trans (k26.below HP.out.1.base (fun _ x => x.elim))
          refine ⟨st7, hbw.trans (kc.below hp6.base (fun k e => by have := HP.out.1.base; omega)), fun b t hm => ?_, fun b o t ho => ?_, fun b t => ?_⟩
          · have hge := H3.out.1.from b hm
            rcases t with t | t
            · have := hlt2 b t; omega
            · subst t
              obtain ⟨o, ho, ht⟩ := st6.pr.heap.kinds b hm
              rw [ho6 o ho] at ht
              rcases ht with x | x | x <;> cases x
          · rcases t with t | t
            · obtain ⟨o', ho', ht⟩ := prh.heap.kinds b t
              rw [ho] at ho'
              cases ho'
              have hbl := hlt2 b t
              refine ⟨fun e => ?_, ?_⟩
              · subst e
                obtain ⟨a', c', e1, _⟩ := st7.pr.ref
                rw [ho] at e1
                cases e1
                rcases ht with x | x | x <;> simp [tyOf] at x
              · refine ⟨?_, ?_, ?_, fun hge => by omega⟩ <;> (rcases ht with x | x | x <;> rw [x] <;> decide)
            · subst t
              obtain ⟨a', c', e1, _⟩ := H7.out.1
              rw [ho] at e1
              cases e1
              exact ⟨by omega, by simp [tyOf], by simp [tyOf], by simp [tyOf], fun _ => by simp [tyOf]⟩
          · rcases t with t | t
            · exact HP.out.1.heap.from b t
            · have := HP.out.1.base; omega
        have H9 : Hid (Cp2 w wc hb mb ro ob 0 wc) := ⟨ro, L, prh, by have := HP.out.2.1; have := HLN.out; omega, fun b e => .inl e, Kept.refl _ _⟩
        have HL60 := Lib.hid HP.out.2.1
        clear hp6 k26 g56 z6 hob hlt2 z23 z34 z45 hrf2 ho6 kc prh st6 st7 H6 H7 HP H3 H4 H5 HW7 d1 d2 d3 d4 d5 happ
        go_wp2_with fail
        go_loopg [12] m (fun gk s wr => ∃ j : Nat, s = .int .i64 j ∧ j ≤ m ∧ m - j ≤ gk ∧ Hid (Cp2 w wc hb mb ro ob j wr))
        case atStart => exact ⟨0, rfl, Nat.zero_le _, Nat.le_refl _, H9.out⟩
        case round =>
          rename World => W8
          obtain ⟨j, rfl, hjm, hgk2, HR⟩ := hrel
          by_cases hj : j < m
          · have hj' : decide ((j : Int) < (m : Int)) = true := decide_eq_true (by omega)
            have hjz : (j : Int) < (m : Int) := by omega
            have q4 : IntKind.i64.wrap ((j : Int) + 1) = (j : Int) + 1 := by rw [IntKind.wrap_i64]; omega
            obtain ⟨ro', L2, hp, hl, hmv, hk8⟩ := HR.out
            have hb8 : Below w.heap.size w W8 := H8.out.2.1.trans (hk8.below H8.out.2.1.size H8.out.2.2.2.2)
            rcases HO.out.2.below hb8 with h | ⟨g, o, rfl, hg, hc'⟩
            · omega
            obtain ⟨⟨c1, c2, c3⟩, hy, hx⟩ := hc' j hj
            have CD : Hid (Calls Try.prog 15 #[.pointer (some ⟨hb, 0, none⟩), .pointer (some ⟨ob, 0, none⟩), opV (V2 j).1 (V2 j).2.1 (V2 j).2.2] W8 fun e w' => e = .returned (.bool true) ∧ Cp2 w wc hb mb ro ob (j + 1) w') := by
              refine (does_any w.heap.size W8 hb mb ro' ob L2 hp (by omega) (V2 j).1 (V2 j).2.1 (V2 j).2.2 hy hx).mono ?_
              rintro e W9 ⟨rfl, hd⟩
              obtain ⟨ro'', L3, hp', hl', k9, hmv'⟩ := hd
              have z8 := hk8.size
              refine ⟨rfl, ro'', L3, hp', by omega, fun b e => ?_, hk8.andThen k9 (fun b t => ?_)⟩
              · rcases hmv' b e with e | e
                · exact hmv b e
                · exact .inr (by omega)
              · rcases t with (e | e | e) | e
                · exact .inl (.inl (.inl e))
                · exact .inl (.inl (.inr (.inl e)))
                · rcases hmv b e with e | e
                  · exact .inl (.inl (.inr (.inr e)))
                  · exact .inr e
                · exact .inl (.inr e)
            clear hp hl hb8 hc' hy hx HR H9 hmv hk8
            generalize (V2 j).1 = q at *
            generalize (V2 j).2.1 = y' at *
            generalize (V2 j).2.2 = x' at *
            go_wp2_with (go_at_call 15; (with_reducible refine CD.out.mono ?_); rintro e W9 ⟨rfl, h9⟩; have HH9 := Lib.hid h9; clear h9)
            go_roundg (m - (j + 1))
            case measure => omega
            case rel => exact ⟨j + 1, by go_num, by omega, Nat.le_refl _, (show Hid _ from HH9.out)⟩
          · obtain rfl : j = m := by omega
            have hj' : decide ((j : Int) < (j : Int)) = false := decide_eq_false (by omega)
            obtain ⟨ro8, L2, hp8, hl8, hmv8, hk8⟩ := HR.out
            have st8 := H8.out.1.kept hk8 H8.out.2.2.1 H8.out.2.2.2.1
            have hb8 : Below w.heap.size w W8 := H8.out.2.1.trans (hk8.below H8.out.2.1.size H8.out.2.2.2.2)
            have HF : Hid (Pr w.heap.size W8 hb mb ro8 ob L2 ∧ L2.length ≤ 120 ∧ Still7 w.heap.size hc mc rc rf W3.heap.size L W8 ∧ Below w.heap.size w W8 ∧ L.length ≤ 60) := ⟨hp8, by omega, st8, hb8, by have := HLN.out; have := HL60.out; omega⟩
            obtain ⟨cb, hcb⟩ : ∃ cb, W3.heap.size = cb := ⟨_, rfl⟩
            rw [hcb] at HF ⊢
            clear hp8 hl8 hmv8 hk8 st8 hb8 HR H9 H8 hcb HL60 HLN
            obtain ⟨cnt, hcnt⟩ : ∃ cnt, W8.heap.size = cnt := ⟨_, rfl⟩
            obtain ⟨W9, hW9⟩ : ∃ W9, W8.alloc (.cells #[.int .i64 0] 3) = W9 := ⟨_, rfl⟩
            have g9 : Grew W8 W9 := by rw [← hW9]; exact (Grew.refl _).alloc _
            have n9 : NumAt W9 cnt 0 := by unfold NumAt; rw [← hW9, ← hcnt]; exact heap_alloc_new _ _
            have HW9 : Hid (W8.alloc (.cells #[.int .i64 0] 3) = W9 ∧ W8.heap.size = cnt) := ⟨hW9, hcnt⟩
            have H9 : Hid (Grew W8 W9 ∧ NumAt W9 cnt 0) := ⟨g9, n9⟩
            clear hW9 hcnt g9 n9
            go_wp2_with fail
            rw [HW9.out.1, HW9.out.2]
            obtain ⟨hp8, hl8, st8, hb8, hL60⟩ := HF.out
            have g9 := H9.out.1
            obtain ⟨rb, r1, r2, r3, hnth⟩ := all_nth cb cb L (by omega) W8 st8.seq
            have hbel := g9.below
            have zc := HW9.out.2
            have z9 := g9.size
            have zz : cnt < W9.heap.size := (Array.getElem?_eq_some_iff.1 H9.out.2).1
            have l1 : cb < cnt := by omega
            have l2 : rb < cnt := by omega
            have l3 : cb < W9.heap.size := by omega
            have l4 : rb < W9.heap.size := by omega
            have st9 := st8.kept (g9.kept (fun _ => False)) (fun _ x => x.elim) (fun _ _ x => x.elim)
            have hp9 := hp8.grew g9
            have hb9 : Below w.heap.size w W9 := hb8.trans (hbel.mono hb8.size)
            have hwc : w.heap.size < W8.heap.size := (Array.getElem?_eq_some_iff.1 st8.bit).1
            have facts : ∀ k Wk, CntI W9 cnt k Wk → (Wk.cell? ⟨cnt, 0, none⟩ = some (.int .i64 k) ∧ Wk.frozen? ⟨cnt, 0, none⟩ = false) ∧ Still7 w.heap.size hc mc rc rf cb L Wk ∧ Pr w.heap.size Wk hb mb ro8 ob L2 ∧ Below w.heap.size w Wk := fun k Wk hi => by
              have ty : ∀ b o, b = cnt → W9.heap[b]? = some o → tyOf o = some 3 := fun b o e ho => by
                subst e
                rw [show W9.heap[b]? = _ from H9.out.2] at ho
                cases ho
                rfl
              refine ⟨hi.2.cell, st9.kept hi.1 (fun b e hm => ?_) (fun b o e ho => ?_), hp9.keptN hi.1 (fun b o e ho => ⟨_, ty b o e ho, by decide, by decide, by decide, by decide⟩), hb9.trans (hi.1.below hb9.size (fun b e => by omega))⟩
              · obtain ⟨o, ho, ht⟩ := st9.pr.heap.kinds b hm
                rw [ty b o e ho] at ht
                rcases ht with x | x | x <;> cases x
              · rw [ty b o e ho]
                refine ⟨fun e2 => ?_, by decide, by decide, by decide, fun _ => by decide⟩
                have := st8.pr.ref.lt
                omega
            have FF := Lib.hid facts
            have hoI := cntI_own zz
            have H0 : CntI W9 cnt 0 W9 := ⟨Kept.refl _ _, H9.out.2⟩
            have HX : Hid (L.length ≤ 60 ∧ L2.length ≤ 120 ∧ w.heap.size < cnt) := ⟨hL60, hl8, by omega⟩
            have hwcnt : w.heap.size < cnt := by omega
            clear hp8 hl8 st8 hb8 g9 zc z9 st9 hp9 hb9 facts r1 r2 r3 hwc HF HW9
            refine wp_rangeNth (gf := 53) (lb := #[.pointer (some ⟨cb, 0, none⟩)]) (encs := enN L) (Kp := Pair2 cb rb) (N := L.length) (w0 := W8) ?hg ?eg hnth ?kt ?kb hbel ?ps (CntI W9 cnt) (fun _ _ _ => False) hoI ?hix H0 ?round ?done ?stop
            case hg => rfl
            case eg => exact enters_of Try.func53 (by kernel_rfl) rfl
            case kt => exact fun h k => h.trans k
            case kb => exact fun W l o o' h1 h2 h3 => Pair2.put l3 l4 W l o o' h1 h2 h3
            case ps => exact fun _ => rfl
            case hix => exact fun c s A B row hs _ _ => hs
            case stop => intro D c k W5 _ _ hx; exact hx.elim
            case round =>
              intro l k Wk hks hi
              unfold enN
              gi_wp2
              refine ⟨KeepsFrom.refl _ _, Pair2.refl _ _ _, fun Wb hbz => ?_⟩
              have hi2 := hbz.own hoI hi
              obtain ⟨⟨c1, c2⟩, stb, _⟩ := FF.out k Wb hi2
              have c3 := stb.ptr.cell
              obtain ⟨g, cap', hrf, hrow, hcap⟩ := stb.pr.ref.row (by omega)
              have c4 : Wb.cell? ⟨rf, 0, none⟩ = some (.slice (some ⟨g, 0, none⟩) L.length cap') := by simp [World.cell?, hrf]
              have c6 := hrow.2 _ _ (flatR_get L k hks).2
              have HI2 := Lib.hid hi2
              have hbs := hi2.1.size
              have hkz : (k : Int) < (L.length : Int) := by omega
              have hkd : decide ((k : Int) ≥ (L.length : Int)) = false := decide_eq_false (by omega)
              have hkd2 : decide (L.length ≤ k) = false := decide_eq_false (by omega)
              have q4 : IntKind.i64.wrap ((k : Int) + 1) = (k : Int) + 1 := by rw [IntKind.wrap_i64]; omega
              clear hi hi2 stb hrf hrow hcap FF hoI H0 hnth
              generalize rky L k = ky at *
              generalize rid L k = ki at *
              generalize L.length = n at *
              gi_wp2
              refine round_quiet l (Drawing Wb) (by kernel_rfl) mixed (by kernel_rfl) (drawing_drew Wb) ?_
              repeat (go_big_quiet_step (fail))
              refine wpQuiet_nil ?_
              rintro _ ⟨nq, rfl⟩
              gi_wp2
              have HK : Kept (fun i => i = cnt) Wb ((Wb.drewN nq).setCell ⟨cnt, 0, none⟩ (.int .i64 ((k : Int) + 1))) := (((grewD Wb nq).kept (fun i => i = cnt)).setCell (p := ⟨cnt, 0, none⟩) (.inl rfl) _)
              refine ⟨HK.from _ (fun i e => by rw [e]; exact zz), ⟨HK.block cb (by omega) (by omega), HK.block rb (by omega) (by omega)⟩, ?_⟩
              exact (HI2.out.grew zz (grewD Wb nq)).next
            case done =>
              intro D W10 hD hi hdef
              obtain ⟨⟨c1, c2⟩, st, hph, hbw⟩ := FF.out _ W10 hi
              obtain ⟨ra, rcap, hrf, _⟩ := st.pr.ref
              have hcl : cnt < W10.heap.size := (Array.getElem?_eq_some_iff.1 hi.2).1
              have hbits := st.bit
              have fc : ∀ q : Lies W10, q.v.cell? ⟨cnt, 0, none⟩ = some (.int .i64 L.length) := fun q => (q.h.cell (p := ⟨cnt, 0, none⟩) hcl).trans c1
              have fp : ∀ q : Lies W10, q.v.cell? ⟨rf + 1, 0, none⟩ = some (.pointer (some ⟨rf, 0, none⟩)) := fun q => PtrAt.cell ((q.h.block _ (Array.getElem?_eq_some_iff.1 st.ptr).1).trans st.ptr)
              have fr : ∀ q : Lies W10, q.v.cell? ⟨rf, 0, none⟩ = some (.slice ra L.length rcap) := fun q => by
                have := (q.h.block rf (Array.getElem?_eq_some_iff.1 hrf).1).trans hrf
                simp [World.cell?, this]
              have CS1 : ∀ q : Lies W10, Hid (Calls Try.prog 16 #[.pointer (some ⟨hc, 0, none⟩), .pointer (some ⟨rf, 0, none⟩)] q.v fun e w' => e = .returned (.bool true) ∧ ∃ p : Lies W10, w' = p.v) := fun q => by
                have hq := Kept.of_below q.h
                refine (same_any w.heap.size q.v hc mc rc rf L (st.pr.same hq) (by have := HX.out.1; omega)).mono ?_
                rintro e w' ⟨rfl, k⟩
                exact ⟨rfl, ⟨w', q.h.trans (k.below q.h.size (fun _ x => x.elim))⟩, rfl⟩
              have CS2 : ∀ q : Lies W10, Hid (Calls Try.prog 16 #[.pointer (some ⟨hb, 0, none⟩), .pointer (some ⟨ob, 0, none⟩)] q.v fun e w' => e = .returned (.bool true) ∧ ∃ p : Lies W10, w' = p.v) := fun q => by
                have hq := Kept.of_below q.h
                refine (same_any w.heap.size q.v hb mb ro8 ob L2 (hph.same hq) (by have := HX.out.2.1; omega)).mono ?_
                rintro e w' ⟨rfl, k⟩
                exact ⟨rfl, ⟨w', q.h.trans (k.below q.h.size (fun _ x => x.elim))⟩, rfl⟩
              have CW2 : ∀ q : Lies W10, Hid (Calls Try.prog 14 #[] q.v fun e w' => e = .returned (.bool true) ∧ ∃ p : Lies W10, w' = p.v) := fun q => by
                refine (CW q.v).out.mono ?_
                rintro e w' ⟨rfl, b⟩
                exact ⟨rfl, ⟨w', q.h.trans (b.mono q.h.size)⟩, rfl⟩
              have HB : Hid (BitAt W10 w.heap.size false ∧ Below w.heap.size w W10) := ⟨hbits, hbw⟩
              clear hi st hph hbw hrf FF hoI H0 hnth hbits c1 c2
              generalize L.length = n at *
              haveI hin : Inhabited (Lies W10) := ⟨⟨W10, Below.refl _ _⟩⟩
              go_wp2_with fail
              refine plain_last 20 _ (Lying W10) rfl rfl (by kernel_rfl) mixed (lying_drew W10) ?_
              simp only [List.take_succ_cons, List.take_zero]
              repeat (quiet_step (first | (go_at_call 16; (with_reducible exact (CS1 _).out)) | (go_at_call 16; (with_reducible exact (CS2 _).out)) | (go_at_call 14; (with_reducible exact (CW2 _).out))))
              refine wpQuiet_nil ?_
              rintro _ ⟨q, rfl⟩
              have hbq : BitAt q.v w.heap.size false := (q.h.block _ (Array.getElem?_eq_some_iff.1 HB.out.1).1).trans HB.out.1
              obtain ⟨y1, y2⟩ := hbq.cell
              have hDq : q.v.heap[D]? = some (.deferred (some [])) := (q.h.block D (Array.getElem?_eq_some_iff.1 hdef).1).trans hdef
              have hbl : Below w.heap.size w q.v := HB.out.2.trans (q.h.mono HB.out.2.size)
              have HBQ : Hid (BitAt q.v w.heap.size false ∧ q.v.heap[D]? = some (.deferred (some [])) ∧ Below w.heap.size w q.v) := ⟨hbq, hDq, hbl⟩
              clear hbq hDq hbl
              gi_wp2
              go_wp2_with fail
              obtain ⟨hbq, hDq, hbl⟩ := HBQ.out
              have hne : D ≠ w.heap.size := by have := HX.out.2.2; omega
              have hD6 : (q.v.setCell ⟨w.heap.size, 0, none⟩ (.bool true)).heap[D]? = some (.deferred (some [])) := by
                rw [Below.heap_setCell _ _ _ _ (by exact hne)]; exact hDq
              have hc6 : (q.v.setCell ⟨w.heap.size, 0, none⟩ (.bool true)).cell? ⟨w.heap.size, 0, none⟩ = some (.bool true) := (hbq.set true).cell.1
              have hb6 : Below w.heap.size w (q.v.setCell ⟨w.heap.size, 0, none⟩ (.bool true)) := hbl.trans (((Kept.refl (fun i => i = w.heap.size) q.v).setCell (p := ⟨w.heap.size, 0, none⟩) (.inl rfl) _).below hbl.size (fun k e => by omega))
              generalize q.v.setCell ⟨w.heap.size, 0, none⟩ (.bool true) = W11 at *
              refine leave_one hD6 ⟨.bool true, ?_, rfl, hb6.trans (((Kept.refl (fun i => i = D) W11).grown (grownBy_putObj' W11 D _) (fun k e => by cases e; exact .inl rfl)).below hb6.size (fun k e => by have := HX.out.2.2; omega))⟩
              have hc7 : (W11.putObj D (.deferred none)).cell? ⟨w.heap.size, 0, none⟩ = some (.bool true) := by
                rw [World.cell?_of_block (World.putObj_heap_other (by exact hne.symm))]; exact hc6
              simp [results, Try.f4, go_sem, hc7]

theorem walk_HeapCopies (a : Option Addr) (len cap : Nat) (a2 : Option Addr) (len2 cap2 : Nat) (w : World) (h : IsOps w a len cap) (h2 : IsOps w a2 len2 cap2) :
    Calls Try.prog 4 #[.slice a len cap, .slice a2 len2 cap2] w fun E w' => E = .returned (.bool true) ∧ Below w.heap.size w w' := by
  obtain ⟨hl, V, hV⟩ := h.ops
  obtain ⟨hl2, V2, hV2⟩ := h2.ops
  by_cases h60 : 60 < len ∨ 60 < len2
  · exact copies_long a a2 len cap len2 cap2 h60 w
  · exact copies_core a a2 len cap len2 cap2 V V2 (by omega) (by omega) w hV hV2
end Go.Proofs.Ytdmdebelcklfhaa
