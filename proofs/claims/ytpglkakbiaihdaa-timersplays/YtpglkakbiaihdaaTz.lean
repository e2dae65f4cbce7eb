/-
  The law's same, of timers: both hold the same.
-/
import Derived.Test.YtpglkakbiaihdaaTx2
import Derived.Test.YtpglkakbiaihdaaQv
namespace Go.Proofs.Ytpglkakbiaihdaa
open Go.RowKit Go.Shelf Go.Maps
set_option linter.unusedVariables false
set_option linter.unusedSimpArgs false
attribute [local go_sem] Oper.semAt_some

theorem first_of {S : List Ent} (hs : Sorted S) (h0 : 0 < S.length) : IsFirst S (S.getD 0 (0, 0)) := by
  cases S with
  | nil => simp at h0
  | cons x r =>
    refine ⟨List.mem_cons_self, fun y hy hne => ?_⟩
    rcases List.mem_cons.1 hy with rfl | hy
    · exact absurd rfl hne
    · exact (List.pairwise_cons.1 hs).1 y hy
/-- Next, whatever there is. -/
theorem tnext_gen {B : Nat} {w : World} {tb : Nat} {q : QB} {m n o : Int} {S : List Ent} (h : Ts B w tb q m n o S) (hs : Sorted S) (a e : Int) (ha : if S.length = 0 then a = 0 ∧ e = 14 else a = (S.getD 0 (0, 0)).2 ∧ e = 0) :
    Calls Try.prog 49 #[.pointer (some ⟨tb, 0, none⟩)] w fun E w' => E = .returned (.tuple #[.int .i64 a, .int .i64 e]) ∧ Grew w w' := by
  by_cases h0 : S.length = 0
  · rw [if_pos h0] at ha
    obtain ⟨rfl, rfl⟩ := ha
    obtain rfl : S = [] := List.length_eq_zero_iff.1 h0
    exact tnext_nil h
  · rw [if_neg h0] at ha
    obtain ⟨rfl, rfl⟩ := ha
    exact tnext_any h _ (first_of hs (by omega))
theorem grewD5 (w : World) (n : Nat) : Grew w (w.drewN n) := grewN w n

set_option maxHeartbeats 4000000 in
set_option maxRecDepth 100000 in
theorem same5_any {B : Nat} {W : World} {tb : Nat} {q : QB} {m n o : Int} {rq rh : Nat} {S : List Ent} (h : Pt B W tb q m n o rq rh S) (hl : S.length < 1099511627776) :
    Calls Try.prog 41 #[.pointer (some ⟨tb, 0, none⟩), .pointer (some ⟨rq, 0, none⟩)] W fun e w' => e = .returned (.bool true) ∧ Kept (fun _ => False) W w' := by
  have mixed : Try.prog.follows .mixedOrders = true := by kernel_rfl
  have hnf : ∀ (f : Fn) (b c : Array Value) (w : World), (binOp .eql 34 (.func f b c) Value.nilFunc).run Try.prog w = .ok (.bool false) w := fun _ _ _ _ => rfl
  obtain ⟨W3, hW3⟩ : ∃ W3, ((W.alloc (.cells #[.pointer (some ⟨rq, 0, none⟩)] 71)).alloc (.cells #[.bool false] 4)).alloc (.cells #[.int .i64 0] 3) = W3 := ⟨_, rfl⟩
  have g3 : Grew W W3 := by rw [← hW3]; exact (((Grew.refl W).alloc _).alloc _).alloc _
  have z3 : W3.heap.size = W.heap.size + 3 := by rw [← hW3]; simp
  have b0 : W3.heap[W.heap.size]? = some (.cells #[.pointer (some ⟨rq, 0, none⟩)] 71 (0, 0)) := by
    rw [← hW3, Below.heap_alloc _ _ _ (by simp; omega), Below.heap_alloc _ _ _ (by simp)]; exact heap_alloc_new _ _
  have b1 : W3.heap[W.heap.size + 1]? = some (.cells #[.bool false] 4 (0, 0)) := by
    rw [← hW3, Below.heap_alloc _ _ _ (by simp)]
    have := heap_alloc_new (W.alloc (.cells #[.pointer (some ⟨rq, 0, none⟩)] 71)) (.cells #[.bool false] 4)
    simpa using this
  have b2 : NumAt W3 (W.heap.size + 1 + 1) 0 := by
    unfold NumAt
    rw [← hW3]
    have := heap_alloc_new ((W.alloc (.cells #[.pointer (some ⟨rq, 0, none⟩)] 71)).alloc (.cells #[.bool false] 4)) (.cells #[.int .i64 0] 3)
    simpa using this
  have C := Lib.hid (tarmed_any (h.ts.grew g3) (List.Perm.refl S) h.sorted hl)
  have HW := Lib.hid hW3
  have HB := Lib.hid (And.intro b0 (And.intro b1 b2))
  have Z3 := Lib.hid z3
  have G3 := Lib.hid g3
  clear hW3 b0 b1 b2 z3 g3
  refine calls_marks Try.func41 rfl ?_
  simp only [Try.ntmps41, List.size_toArray, List.length_cons, List.length_nil, Nat.reduceAdd, Nat.reduceSub, Array.replicate_succ, Array.replicate_zero, List.push_toArray, List.append_toArray, List.nil_append, List.cons_append]
  go_wp2_with fail
  rw [HW.out]
  refine C.out.mono ?_
  rintro e W4 ⟨cv, F, rfl, hseq, hF, hk⟩
  have K4 := Lib.hid hk
  have zz : W.heap.size + 1 + 1 < W4.heap.size := by have := K4.out.size; have := Z3.out; omega
  have hc3 : W3.heap.size = W.heap.size + 3 := Z3.out
  have HF : Hid (∀ j, F j → W.heap.size + 3 ≤ j) := fun j hj => by have := hF j hj; omega
  have facts : ∀ k Wk, CntI W4 (W.heap.size + 1 + 1) k Wk → (Wk.cell? ⟨W.heap.size + 1 + 1, 0, none⟩ = some (.int .i64 k) ∧ Wk.frozen? ⟨W.heap.size + 1 + 1, 0, none⟩ = false) ∧ Wk.cell? ⟨W.heap.size, 0, none⟩ = some (.pointer (some ⟨rq, 0, none⟩)) ∧
      Wk.heap[W.heap.size + 1]? = some (.cells #[.bool false] 4 (0, 0)) ∧ Pt B Wk tb q m n o rq rh S := fun k Wk hi => by
    have k34 : Kept (fun i => i = W.heap.size + 1 + 1) W3 Wk := (K4.out.mono (fun _ _ x => x.elim)).trans hi.1
    have e0 := (k34.block W.heap.size (by omega) (by omega)).trans HB.out.1
    have e1 := (k34.block (W.heap.size + 1) (by omega) (by omega)).trans HB.out.2.1
    exact ⟨hi.2.cell, by simp [World.cell?, e0], e1, h.lies ((G3.out.below.trans ((k34.below (B := W.heap.size) (by omega) (fun i e => by omega)))))⟩
  have FF := Lib.hid facts
  have N4 : NumAt W4 (W.heap.size + 1 + 1) 0 := (K4.out.block _ (by omega) (fun x => x)).trans HB.out.2.2
  have hoI := cntI_own zz
  have HS := Lib.hid h.sorted
  clear hk C facts hc3 hF h
  go_wp2_with fail
  refine wp_rangeOwn (gf := 85) (lb := #[.pointer (some ⟨cv, 0, none⟩)]) (encs := enA S) (F := F) (c := 4) (N := S.length) (w0 := W4) ?hg ?eg hseq (Below.refl _ _) ?ps (CntI W4 (W.heap.size + 1 + 1)) (fun _ _ _ => False) hoI ?hix ⟨Kept.refl _ _, N4⟩ ?round ?done ?stop
  case hg => rfl
  case eg => exact enters_of Try.func85 (by kernel_rfl) rfl
  case ps => exact fun _ => rfl
  case hix => exact fun c s A B row hs _ _ => hs
  case stop => intro D c k W5 _ _ hx; exact hx.elim
  case round =>
    intro l k Wk hks hi _
    obtain ⟨x, hx⟩ : ∃ x, S.getD k (0, 0) = x := ⟨_, rfl⟩
    have HX := Lib.hid hx
    unfold enA
    rw [hx]
    clear hx
    obtain ⟨ki, ky⟩ := x
    simp only []
    gi_wp2
    refine ⟨KeepsFrom.refl _ _, KeepB.refl _ _ _ _, fun Wb hbz => ?_⟩
    have hi2 := hbz.own hoI hi
    obtain ⟨⟨c1, c2⟩, c3, _, hpr⟩ := FF.out k Wb hi2
    obtain ⟨_, c7, _, _⟩ := hpr.rf.cells
    obtain ⟨g, cap, hrf, hrow, hcap⟩ := hpr.rf.ref.row (by omega)
    have c4 : Wb.cell? ⟨rh, 0, none⟩ = some (.slice (some ⟨g, 0, none⟩) S.length cap) := by simp [World.cell?, hrf]
    have c5 := hrow.2 _ _ (flatR_get S k hks).1
    have c6 := hrow.2 _ _ (flatR_get S k hks).2
    unfold rky at c5
    unfold rid at c6
    have HI2 := Lib.hid hi2
    have hkz : (k : Int) < (S.length : Int) := by omega
    have hkd : decide ((k : Int) ≥ (S.length : Int)) = false := decide_eq_false (by omega)
    have hkd2 : decide (S.length ≤ k) = false := decide_eq_false (by omega)
    have q4 : IntKind.i64.wrap ((k : Int) + 1) = (k : Int) + 1 := by rw [IntKind.wrap_i64]; omega
    clear hi hi2 hpr hrf hrow FF hoI N4 hseq
    rw [HX.out] at c5 c6
    simp only [] at c5 c6
    have m1 : (ki != ki) = false := by simp
    have m2 : (ky != ky) = false := by simp
    gi_wp2
    refine region_quiet_round_lit l (by kernel_rfl) mixed (by kernel_rfl) ?_
    repeat (gi_big_quiet_step (fail))
    refine wpQuietIn_nil ?_
    intro _ hw'
    obtain ⟨nq, hw''⟩ := hw'
    subst hw''
    gi_wp2
    have HK : Kept (fun i => i = W.heap.size + 1 + 1) Wb ((Wb.drewN nq).setCell ⟨W.heap.size + 1 + 1, 0, none⟩ (.int .i64 ((k : Int) + 1))) := (((grewN Wb nq).kept (fun i => i = W.heap.size + 1 + 1)).setCell (p := ⟨W.heap.size + 1 + 1, 0, none⟩) (.inl rfl) _)
    refine ⟨HK.from _ (fun i e => by rw [e]; exact zz), fun j ob hj ho _ => (HK.block j (Array.getElem?_eq_some_iff.1 ho).1 (fun e => ?_)).trans ho, ?_⟩
    · rcases hj with hj | hj
      · have := HF.out j hj; omega
      · omega
    · exact (HI2.out.grew zz (grewN Wb nq)).next
  case done =>
    intro D W5 hD hi hdef
    have HI5 := Lib.hid hi
    obtain ⟨_, _, _, hpr⟩ := FF.out _ W5 hi
    obtain ⟨a, e, hae⟩ : ∃ a e : Int, if S.length = 0 then a = 0 ∧ e = 14 else a = (S.getD 0 (0, 0)).2 ∧ e = 0 := by
      by_cases h0 : S.length = 0
      · exact ⟨0, 14, by rw [if_pos h0]; exact ⟨rfl, rfl⟩⟩
      · exact ⟨_, 0, by rw [if_neg h0]; exact ⟨rfl, rfl⟩⟩
    have CN := Lib.hid (tnext_gen hpr.ts HS.out a e hae)
    have FX : Hid (∀ W', Below W5.heap.size W5 W' → (W'.cell? ⟨W.heap.size + 1 + 1, 0, none⟩ = some (.int .i64 S.length) ∧ W'.cell? ⟨W.heap.size, 0, none⟩ = some (.pointer (some ⟨rq, 0, none⟩))) ∧ W'.heap[W.heap.size + 1]? = some (.cells #[.bool false] 4 (0, 0)) ∧ Pt B W' tb q m n o rq rh S ∧ W'.heap[D]? = some (.deferred (some [])) ∧ Kept (fun _ => False) W W') := fun W' b => by
      obtain ⟨⟨c1, _⟩, c3, c7, hp⟩ := FF.out _ W5 hi
      have z3 := Z3.out
      have k5 : Kept (fun _ => False) W W5 := ((G3.out.kept _).trans K4.out).andThen hi.1 (fun i e => .inr (by omega))
      exact ⟨⟨keep1' c1 b, keep1' c3 b⟩, (b.block _ (Array.getElem?_eq_some_iff.1 c7).1).trans c7, hp.lies b, (b.block _ (Array.getElem?_eq_some_iff.1 hdef).1).trans hdef, k5.trans (kept_lies b)⟩
    clear hi hpr FF hoI N4 hseq HI5
    go_wp2_with fail
    refine CN.out.mono ?_
    rintro E W6 ⟨rfl, g6⟩
    have FY : Hid (∀ k, ((W6.drewN k).cell? ⟨W.heap.size + 1 + 1, 0, none⟩ = some (.int .i64 S.length) ∧ (W6.drewN k).cell? ⟨W.heap.size, 0, none⟩ = some (.pointer (some ⟨rq, 0, none⟩))) ∧ (W6.drewN k).heap[W.heap.size + 1]? = some (.cells #[.bool false] 4 (0, 0)) ∧ Pt B (W6.drewN k) tb q m n o rq rh S ∧ (W6.drewN k).heap[D]? = some (.deferred (some [])) ∧ Kept (fun _ => False) W (W6.drewN k)) := fun k =>
      FX.out _ (g6.below.trans ((grewN W6 k).below.mono g6.size))
    obtain ⟨⟨c1, c3⟩, c7, hp6, hd6, k6⟩ := FX.out W6 g6.below
    obtain ⟨d0, d1, d2, d3⟩ := hp6.rf.cells
    obtain ⟨ra, rcap, hrf, hrow2⟩ := hp6.rf.ref.at
    have c8 : W6.cell? ⟨W.heap.size + 1, 0, none⟩ = some (.bool false) := by simp [World.cell?, c7]
    have c9 : W6.frozen? ⟨W.heap.size + 1, 0, none⟩ = false := by simp [World.frozen?, c7]
    have CN5 : ∀ k, Hid (Calls Try.prog 47 #[.pointer (some ⟨tb, 0, none⟩)] (W6.drewN k) fun e w' => e = .returned (.int .i64 n) ∧ W6.drewN k = w') := fun k => tnow_any (FY.out k).2.2.1.ts
    have CW5 : ∀ k, Hid (Calls Try.prog 78 #[.pointer (some ⟨tb, 0, none⟩)] (W6.drewN k) fun e w' => e = .returned (.int .i64 o) ∧ W6.drewN k = w') := fun k => tworst_any (FY.out k).2.2.1.ts
    have HD6 : Hid (D ≠ W.heap.size + 1 ∧ W.heap.size + 1 < D) := by have := Z3.out; exact ⟨by omega, by omega⟩
    have q0 : ((S.length : Int) == (S.length : Int)) = true := by simp
    have q1 : (n == n) = true := by simp
    have q2 : (o == o) = true := by simp
    clear CN FX hp6 hd6 k6 g6
    have FZ : Hid (∀ k, (W6.drewN k).heap[W.heap.size + 1]? = some (.cells #[.bool false] 4 (0, 0)) ∧ (W6.drewN k).heap[D]? = some (.deferred (some [])) ∧ Kept (fun _ => False) W (W6.drewN k)) := fun k => ⟨(FY.out k).2.1, (FY.out k).2.2.2.1, (FY.out k).2.2.2.2⟩
    clear FY
    by_cases h0 : S.length = 0
    · rw [if_pos h0] at hae
      obtain ⟨rfl, rfl⟩ := hae
      clear hrow2
      rw [h0] at hrf q0 c1
      clear h0
      go_wp2_with fail
      refine plain_last 28 _ (Drawing W6) rfl rfl (by kernel_rfl) mixed (drawing_drew W6) ?_
      simp only [List.take_succ_cons, List.take_zero]
      repeat (go_big_quiet_step (first | (go_at_call 47; (refine (CN5 _).out.mono ?_); rintro e w1 ⟨rfl, rfl⟩; exact ⟨rfl, _, rfl⟩) | (go_at_call 78; (refine (CW5 _).out.mono ?_); rintro e w1 ⟨rfl, rfl⟩; exact ⟨rfl, _, rfl⟩)))
      refine wpQuiet_nil ?_
      rintro _ ⟨nq, rfl⟩
      gi_wp2
      go_wp2_with fail
      obtain ⟨z1, z2, z3⟩ := FZ.out nq
      have k6 : Kept (fun _ => False) W ((W6.drewN nq).setCell ⟨W.heap.size + 1, 0, none⟩ (.bool true)) := z3.setCell (p := ⟨W.heap.size + 1, 0, none⟩) (.inr (by show W.heap.size ≤ W.heap.size + 1; omega)) _
      have hD6 : ((W6.drewN nq).setCell ⟨W.heap.size + 1, 0, none⟩ (.bool true)).heap[D]? = some (.deferred (some [])) := by
        rw [Below.heap_setCell _ _ _ _ (by exact HD6.out.1)]; exact z2
      have hc6 : ((W6.drewN nq).setCell ⟨W.heap.size + 1, 0, none⟩ (.bool true)).cell? ⟨W.heap.size + 1, 0, none⟩ = some (.bool true) := World.cell?_setCell_same _ _ _ (by rw [World.cell?_drewN]; exact c8)
      generalize (W6.drewN nq).setCell ⟨W.heap.size + 1, 0, none⟩ (.bool true) = W7 at *
      refine leave_one hD6 ⟨.bool true, ?_, rfl, k6.grown (grownBy_putObj' W7 D _) (fun k e => by cases e; exact .inr (by have := HD6.out.2; omega))⟩
      have hc7 : (W7.putObj D (.deferred none)).cell? ⟨W.heap.size + 1, 0, none⟩ = some (.bool true) := by
        rw [World.cell?_of_block (World.putObj_heap_other (by exact HD6.out.1.symm))]; exact hc6
      simp [results, Try.f41, go_sem, hc7]
    · rw [if_neg h0] at hae
      obtain ⟨hae, rfl⟩ := hae
      obtain ⟨g, rfl, x0, x1⟩ := hrow2 0 (by omega)
      unfold rky at x0
      rw [← hae] at x0
      have p1 : ((S.length : Int) == 0) = false := by simpa using h0
      have p2 : decide ((S.length : Int) > 0) = true := decide_eq_true (by omega)
      have p3 : decide (0 < S.length) = true := decide_eq_true (by omega)
      have p4 : (0 : Int) < (S.length : Int) := by omega
      have p5 : (S.length == 0) = false := by simpa using h0
      have p6 : 0 < S.length := by omega
      have p7 : (a != a) = false := by simp
      have p8 : decide (0 < (S.length : Int)) = true := decide_eq_true p4
      simp only [Nat.zero_mul] at x0
      clear x1 h0 hae
      generalize S.length = len at *
      go_wp2_with fail
      refine plain_last 28 _ (Drawing W6) rfl rfl (by kernel_rfl) mixed (drawing_drew W6) ?_
      simp only [List.take_succ_cons, List.take_zero]
      repeat (go_big_quiet_step (first | (go_at_call 47; (refine (CN5 _).out.mono ?_); rintro e w1 ⟨rfl, rfl⟩; exact ⟨rfl, _, rfl⟩) | (go_at_call 78; (refine (CW5 _).out.mono ?_); rintro e w1 ⟨rfl, rfl⟩; exact ⟨rfl, _, rfl⟩)))
      refine wpQuiet_nil ?_
      rintro _ ⟨nq, rfl⟩
      gi_wp2
      go_wp2_with fail
      obtain ⟨z1, z2, z3⟩ := FZ.out nq
      have k6 : Kept (fun _ => False) W ((W6.drewN nq).setCell ⟨W.heap.size + 1, 0, none⟩ (.bool true)) := z3.setCell (p := ⟨W.heap.size + 1, 0, none⟩) (.inr (by show W.heap.size ≤ W.heap.size + 1; omega)) _
      have hD6 : ((W6.drewN nq).setCell ⟨W.heap.size + 1, 0, none⟩ (.bool true)).heap[D]? = some (.deferred (some [])) := by
        rw [Below.heap_setCell _ _ _ _ (by exact HD6.out.1)]; exact z2
      have hc6 : ((W6.drewN nq).setCell ⟨W.heap.size + 1, 0, none⟩ (.bool true)).cell? ⟨W.heap.size + 1, 0, none⟩ = some (.bool true) := World.cell?_setCell_same _ _ _ (by rw [World.cell?_drewN]; exact c8)
      generalize (W6.drewN nq).setCell ⟨W.heap.size + 1, 0, none⟩ (.bool true) = W7 at *
      refine leave_one hD6 ⟨.bool true, ?_, rfl, k6.grown (grownBy_putObj' W7 D _) (fun k e => by cases e; exact .inr (by have := HD6.out.2; omega))⟩
      have hc7 : (W7.putObj D (.deferred none)).cell? ⟨W.heap.size + 1, 0, none⟩ = some (.bool true) := by
        rw [World.cell?_of_block (World.putObj_heap_other (by exact HD6.out.1.symm))]; exact hc6
      simp [results, Try.f41, go_sem, hc7]
end Go.Proofs.Ytpglkakbiaihdaa
