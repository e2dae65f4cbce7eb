/-
  The law's alike: it tells of two heaps that hold the same that they do.
-/
import Derived.Test.YtdmdebelcklfhaaCpI
namespace Go.Proofs.Ytdmdebelcklfhaa
open Go.RowKit Go.Sort Go.Shelf Go.Maps
set_option linter.unusedVariables false
set_option linter.unusedSimpArgs false
attribute [local go_sem] Oper.semAt_some

/-- A truth in a block of its own. -/
def BitAt (W : World) (b : Nat) (t : Bool) : Prop := W.heap[b]? = some (.cells #[.bool t] 4 (0, 0))
theorem BitAt.cell {W : World} {b : Nat} {t : Bool} (h : BitAt W b t) : W.cell? ⟨b, 0, none⟩ = some (.bool t) ∧ W.frozen? ⟨b, 0, none⟩ = false := by
  unfold BitAt at h
  exact ⟨by simp [World.cell?, h], by simp [World.frozen?, h]⟩
theorem BitAt.set {W : World} {b : Nat} {t : Bool} (h : BitAt W b t) (t' : Bool) : BitAt (W.setCell ⟨b, 0, none⟩ (.bool t')) b t' := by
  unfold BitAt at *
  simp [World.setCell, Array.getElem?_modify, h]

/-- Between two rounds: the truth says whether none came yet, all else is as it was. -/
def BitI (W4 : World) (b : Nat) (k : Nat) (W : World) : Prop := Kept (fun i => i = b) W4 W ∧ BitAt W b (decide (k = 0))
theorem bitI_own {W4 : World} {b : Nat} (hb : b < W4.heap.size) : OwnFrom W4.heap.size (BitI W4 b) := fun k A B row hs hg hr => by
  obtain ⟨h1, h2⟩ := hs
  refine ⟨h1.grown hg (fun k e => .inr (hr k e).1), ?_⟩
  unfold BitAt at *
  rw [hg.block b (Array.getElem?_eq_some_iff.1 h2).1 (fun e => by have := (hr b e.symm).1; omega)]
  exact h2
theorem BitI.grew {W4 W W' : World} {b k : Nat} (h : BitI W4 b k W) (hb : b < W4.heap.size) (g : Grew W W') : BitI W4 b k W' :=
  ⟨h.1.trans (g.kept _), (g.block (Nat.lt_of_lt_of_le hb h.1.size)).trans h.2⟩

theorem Hs.keptT {B : Nat} {w w' : World} {hb mb : Nat} {ro : Option Nat} {C : List Ent} {S : Nat → Prop} (h : Hs B w hb mb ro C) (k : Kept S w w') (hs : ∀ b o, S b → w.heap[b]? = some o → ∃ t, tyOf o = some t ∧ t ≠ 81 ∧ t ≠ 87) : Hs B w' hb mb ro C :=
  h.kept k (fun b hm s => by
    obtain ⟨o, ho, ht⟩ := h.kinds b hm
    obtain ⟨t, e, t3, t4⟩ := hs b o s ho
    rw [e] at ht
    rcases ht with x | x | x
    · cases x; exact t3 rfl
    · cases x
    · cases x; exact t4 rfl)

set_option maxHeartbeats 2000000 in
set_option maxRecDepth 100000 in
theorem alike_any (Ba Bb : Nat) (w : World) (ha ma hb mb : Nat) (ra rb0 : Option Nat) (C : List Ent) (hA : Hs Ba w ha ma ra C) (hB : Hs Bb w hb mb rb0 C) (hd : Diff C) (hl : C.length ≤ 1099511627776) :
    Calls Try.prog 23 #[.pointer (some ⟨ha, 0, none⟩), .pointer (some ⟨hb, 0, none⟩)] w fun e w' => e = .returned (.bool true) ∧ Kept (fun _ => False) w w' := by
  have mixed : Try.prog.follows .mixedOrders = true := by kernel_rfl
  have hnf : ∀ (f : Fn) (b c : Array Value) (w : World), (binOp .eql 42 (.func f b c) Value.nilFunc).run Try.prog w = .ok (.bool false) w := fun _ _ _ _ => rfl
  obtain ⟨W0, hW0⟩ : ∃ W0, (w.alloc (.cells #[.pointer (some ⟨hb, 0, none⟩)] 23)).alloc (.cells #[.bool false] 4) = W0 := ⟨_, rfl⟩
  have g0 : Grew w W0 := by rw [← hW0]; exact ((Grew.refl w).alloc _).alloc _
  have z0 : W0.heap.size = w.heap.size + 2 := by rw [← hW0]; simp
  have b0 : W0.heap[w.heap.size]? = some (.cells #[.pointer (some ⟨hb, 0, none⟩)] 23 (0, 0)) := by
    rw [← hW0, Below.heap_alloc _ _ _ (by simp)]; exact heap_alloc_new _ _
  have b1 : BitAt W0 (w.heap.size + 1) false := by
    unfold BitAt
    rw [← hW0]
    have := heap_alloc_new (w.alloc (.cells #[.pointer (some ⟨hb, 0, none⟩)] 23)) (.cells #[.bool false] 4)
    simpa using this
  have C1 := Lib.hid (hs_all (hA.grew g0) (diff_nodup hd))
  have HAB : Hid (Hs Ba w ha ma ra C ∧ Hs Bb w hb mb rb0 C) := ⟨hA, hB⟩
  have HB := Lib.hid (And.intro b0 b1)
  have G0 := Lib.hid g0
  have Z0 := Lib.hid z0
  have HW := Lib.hid hW0
  clear b0 b1 g0 z0 hW0 hA hB hd
  refine calls_marks Try.func23 rfl ?_
  simp only [Try.ntmps23, List.size_toArray, List.length_cons, List.length_nil, Nat.reduceAdd, Nat.reduceSub, Array.replicate_succ, Array.replicate_zero, List.push_toArray, List.append_toArray, List.nil_append, List.cons_append]
  go_wp2_with fail
  rw [HW.out]
  refine C1.out.mono ?_
  rintro e W1 ⟨S, rfl, hp, hsr, hseq, hk⟩
  have hSl : S.length ≤ 1099511627776 := by rw [hp.length_eq]; exact hl
  have z0 := Z0.out
  have zk := hk.size
  have k1 : Kept (fun _ => False) w W1 := (G0.out.kept _).trans hk
  have hA1 := HAB.out.1.kept k1 (fun _ _ x => x)
  have hB1 := HAB.out.2.kept k1 (fun _ _ x => x)
  have CA : ∀ m, Hid (Calls Try.prog 24 #[.pointer (some ⟨ha, 0, none⟩)] (W1.drewN m) fun e w' => e = .returned (.int .i64 C.length) ∧ W1.drewN m = w') := fun m => hs_len (hA1.grew (grewD W1 m))
  have CB : ∀ m, Hid (Calls Try.prog 24 #[.pointer (some ⟨hb, 0, none⟩)] (W1.drewN m) fun e w' => e = .returned (.int .i64 C.length) ∧ W1.drewN m = w') := fun m => hs_len (hB1.grew (grewD W1 m))
  have e0 := (hk.block w.heap.size (by omega) (fun x => x)).trans HB.out.1
  have e1 : BitAt W1 (w.heap.size + 1) false := (hk.block (w.heap.size + 1) (by omega) (fun x => x)).trans HB.out.2
  have d0 : W1.cell? ⟨w.heap.size, 0, none⟩ = some (.pointer (some ⟨hb, 0, none⟩)) := by simp [World.cell?, e0]
  have HS : Hid (S.Perm C ∧ (∀ i j, i < j → j < S.length → ah (S.getD i (0, 0)) (S.getD j (0, 0)) = true) ∧ SeqAt W0.heap.size W0.heap.size S W1 ∧ Kept (fun _ => False) w W1 ∧ Hs Bb W1 hb mb rb0 C) := ⟨hp, hsr, hseq, k1, hB1⟩
  have HE : Hid (W1.heap[w.heap.size]? = some (.cells #[.pointer (some ⟨hb, 0, none⟩)] 23 (0, 0)) ∧ BitAt W1 (w.heap.size + 1) false) := ⟨e0, e1⟩
  have HL := Lib.hid hp.length_eq
  obtain ⟨cb, hcb⟩ : ∃ cb, W0.heap.size = cb := ⟨_, rfl⟩
  rw [hcb]
  have HCB := Lib.hid hcb
  clear hp hsr hseq hk C1 hcb HAB k1 hA1 hB1 e0 e1 z0 zk
  generalize C.length = n at *
  go_wp2_with fail
  go_quiet (first | (go_at_call 24; (with_reducible refine (CA _).out.mono ?_); rintro e w1 ⟨rfl, rfl⟩; exact ⟨rfl, _, rfl⟩) | (go_at_call 24; (with_reducible refine (CB _).out.mono ?_); rintro e w1 ⟨rfl, rfl⟩; exact ⟨rfl, _, rfl⟩))
  obtain ⟨W2, hW2⟩ : ∃ W2, W1.drewN nq = W2 := ⟨_, rfl⟩
  obtain ⟨W3, hW3⟩ : ∃ W3, W2.alloc (.cells #[.bool true] 4) = W3 := ⟨_, rfl⟩
  have g3 : Grew W1 W3 := by rw [← hW3, ← hW2]; exact (grewD W1 nq).alloc _
  have z2 : W2.heap.size = W1.heap.size := by rw [← hW2]; rfl
  have z3 : W3.heap.size = W2.heap.size + 1 := by rw [← hW3]; simp
  have f3 : BitAt W3 W2.heap.size true := by unfold BitAt; rw [← hW3]; exact heap_alloc_new _ _
  rw [hW2]
  have HW3 := Lib.hid hW3
  obtain ⟨fb, hfb⟩ : ∃ fb, W2.heap.size = fb := ⟨_, rfl⟩
  have HFB := Lib.hid hfb
  have Z23 : Hid (W2.heap.size = W1.heap.size ∧ W3.heap.size = W2.heap.size + 1) := ⟨z2, z3⟩
  clear hW3 hW2 z2 z3 hfb
  go_wp2_with fail
  rw [HW3.out, HFB.out]
  have hfb := HFB.out
  obtain ⟨z2, z3⟩ := Z23.out
  rw [hfb] at f3 z2 z3
  have zcb := HCB.out
  have zz0 := Z0.out
  have hseq := HS.out.2.2.1
  rw [zcb] at hseq
  obtain ⟨rb, r1, r2, r3, hnth⟩ := all_nth cb cb S hSl W1 hseq
  have zz : fb < W3.heap.size := by omega
  have hk1 := HS.out.2.2.2.1.size
  have facts : ∀ k Wk, BitI W3 fb k Wk → (Wk.cell? ⟨fb, 0, none⟩ = some (.bool (decide (k = 0))) ∧ Wk.frozen? ⟨fb, 0, none⟩ = false) ∧ Wk.cell? ⟨w.heap.size, 0, none⟩ = some (.pointer (some ⟨hb, 0, none⟩)) ∧ BitAt Wk (w.heap.size + 1) false ∧ Hs Bb Wk hb mb rb0 C := fun k Wk hi => by
    have w1 : w.heap.size + 1 < W1.heap.size := (Array.getElem?_eq_some_iff.1 HE.out.2).1
    have x0 := (hi.1.block w.heap.size (by omega) (by omega)).trans ((g3.block (by omega)).trans HE.out.1)
    have x1 : BitAt Wk (w.heap.size + 1) false := (hi.1.block (w.heap.size + 1) (by omega) (by omega)).trans ((g3.block (by omega)).trans HE.out.2)
    refine ⟨hi.2.cell, by simp [World.cell?, x0], x1, (HS.out.2.2.2.2.grew g3).keptT hi.1 (fun b o hb' ho => ?_)⟩
    subst hb'
    rw [show W3.heap[b]? = _ from f3] at ho
    cases ho
    exact ⟨4, rfl, by decide, by decide⟩
  have FF := Lib.hid facts
  have hoI := bitI_own zz
  have H0 : BitI W3 fb 0 W3 := ⟨Kept.refl _ _, f3⟩
  have G3 := Lib.hid g3
  have hbel := g3.below
  have w1 : w.heap.size + 1 < W1.heap.size := (Array.getElem?_eq_some_iff.1 HE.out.2).1
  have l1 : cb < fb := by omega
  have l2 : rb < fb := by omega
  have l3 : cb < W3.heap.size := by omega
  have l4 : rb < W3.heap.size := by omega
  have l5 : w.heap.size + 1 < fb := by omega
  have l6 : w.heap.size < fb := by omega
  clear facts hseq f3 g3 hfb z2 z3 zcb zz0 hk1 r1 r2 r3 w1
  refine wp_rangeNth (gf := 53) (lb := #[.pointer (some ⟨cb, 0, none⟩)]) (encs := enN S) (Kp := Pair2 cb rb) (N := S.length) (w0 := W1) ?hg ?eg hnth ?kt ?kb hbel ?ps (BitI W3 fb) (fun _ _ _ => False) hoI ?hix H0 ?round ?done ?stop
  case hg => rfl
  case eg => exact enters_of Try.func53 (by kernel_rfl) rfl
  case kt => exact fun h k => h.trans k
  case kb => exact fun W l o o' h1 h2 h3 => Pair2.put l3 l4 W l o o' h1 h2 h3
  case ps => exact fun _ => rfl
  case hix => exact fun c s A B row hs _ _ => hs
  case stop => intro D c k W5 _ _ hx; exact hx.elim
  case round =>
    intro l k Wk hks hi
    unfold enN
    gi_wp2
    refine ⟨KeepsFrom.refl _ _, Pair2.refl _ _ _, fun Wb hbz => ?_⟩
    have hi2 := hbz.own hoI hi
    obtain ⟨⟨c1, c2⟩, c3, _, hBk⟩ := FF.out k Wb hi2
    have hm := HS.out.1.mem_iff.1 (mem_getD hks)
    have CG := Lib.hid (hs_get hBk (S.getD k (0, 0)) hm)
    have h0 : 0 < S.length := by omega
    have hmin : ∀ y ∈ C, y ≠ S.getD 0 (0, 0) → ah (S.getD 0 (0, 0)) y = true := fun y hy hne => by
      obtain ⟨j, hj, e⟩ := getD_mem (HS.out.1.mem_iff.2 hy)
      rw [← e]
      refine HS.out.2.1 0 j ?_ hj
      rcases Nat.eq_zero_or_pos j with x | x
      · subst x; exact absurd e.symm hne
      · exact x
    have CP := Lib.hid (hs_peek hBk (S.getD 0 (0, 0)) (HS.out.1.mem_iff.1 (mem_getD h0)) hmin)
    have HI2 := Lib.hid hi2
    have cells : ∀ W', Grew Wb W' → W'.cell? ⟨fb, 0, none⟩ = some (.bool (decide (k = 0))) ∧ W'.frozen? ⟨fb, 0, none⟩ = false := fun W' g => ((FF.out k W' (hi2.grew zz g)).1)
    have CC := Lib.hid cells
    have HK : ∀ W', Grew Wb W' → Hid (postNth W3.heap.size (Pair2 cb rb) (BitI W3 fb) (fun _ _ _ => False) k Wb .normal { tmps := #[], defers := [] } (W'.setCell ⟨fb, 0, none⟩ (.bool false))) := fun W' g => by
      have hbs := hi2.1.size
      have kk : Kept (fun i => i = fb) Wb (W'.setCell ⟨fb, 0, none⟩ (.bool false)) := (g.kept (fun i => i = fb)).setCell (p := ⟨fb, 0, none⟩) (.inl rfl) _
      refine ⟨kk.from _ (fun i e => by rw [e]; exact zz), ⟨kk.block cb (by omega) (by omega), kk.block rb (by omega) (by omega)⟩, (hi2.1.trans (g.kept _)).setCell (p := ⟨fb, 0, none⟩) (.inl rfl) _, ?_⟩
      have := (hi2.grew zz g).2.set false
      rwa [show decide (k + 1 = 0) = false from rfl]
    have HKK := Lib.hid HK
    have er1 : (S.getD k (0, 0)).1 = rid S k := rfl
    have er2 : (S.getD k (0, 0)).2 = rky S k := rfl
    have er3 : (S.getD 0 (0, 0)).1 = rid S 0 := rfl
    have er4 : (S.getD 0 (0, 0)).2 = rky S 0 := rfl
    rw [er1, er2] at CG
    rw [er3, er4] at CP
    clear hi hi2 hBk FF hoI H0 hnth hm hmin cells HK er1 er2 er3 er4
    by_cases hk0 : k = 0
    · subst hk0
      generalize rky S 0 = ky at *
      generalize rid S 0 = ki at *
      have hd0 : decide ((0 : Nat) = 0) = true := rfl
      gi_wp2_with fail
      refine ⟨trivial, (CallsIn.inRound l (callsIn_wide.2 CG.out)).mono ?_⟩
      rintro e W4 ⟨rfl, rfl⟩
      gi_wp2_with fail
      refine ⟨trivial, (CallsIn.inRound l (callsIn_wide.2 CP.out)).mono ?_⟩
      rintro e W5 ⟨rfl, g5⟩
      obtain ⟨x1, x2⟩ := CC.out W5 g5
      have HX := HKK.out W5 g5
      gi_wp2
      exact HX.out
    · have hd0 : decide (k = 0) = false := decide_eq_false hk0
      generalize rky S k = ky at *
      generalize rid S k = ki at *
      generalize rky S 0 = ky0 at *
      generalize rid S 0 = ki0 at *
      gi_wp2_with fail
      refine ⟨trivial, (CallsIn.inRound l (callsIn_wide.2 CG.out)).mono ?_⟩
      rintro e W4 ⟨rfl, rfl⟩
      gi_wp2_with fail
      refine ⟨trivial, (CallsIn.inRound l (callsIn_wide.2 CP.out)).mono ?_⟩
      rintro e W5 ⟨rfl, g5⟩
      obtain ⟨x1, x2⟩ := CC.out W5 g5
      rw [hd0] at x1
      have HX := HKK.out W5 g5
      gi_wp2
      exact HX.out
  case done =>
    intro D W5 hD hi hdef
    obtain ⟨_, _, c7, _⟩ := FF.out _ W5 hi
    obtain ⟨c8, c9⟩ := c7.cell
    have k5 : Kept (fun _ => False) w W5 := (HS.out.2.2.2.1.trans (G3.out.kept _)).andThen hi.1 (fun i e => .inr (by omega))
    have K5 := Lib.hid k5
    clear hi FF hoI H0 hnth c7 k5
    go_wp2_with fail
    have k6 : Kept (fun _ => False) w (W5.setCell ⟨w.heap.size + 1, 0, none⟩ (.bool true)) := K5.out.setCell (p := ⟨w.heap.size + 1, 0, none⟩) (.inr (by show w.heap.size ≤ w.heap.size + 1; omega)) _
    have hD6 : (W5.setCell ⟨w.heap.size + 1, 0, none⟩ (.bool true)).heap[D]? = some (.deferred (some [])) := by
      rw [Below.heap_setCell _ _ _ _ (by show D ≠ w.heap.size + 1; omega)]; exact hdef
    have hc6 : (W5.setCell ⟨w.heap.size + 1, 0, none⟩ (.bool true)).cell? ⟨w.heap.size + 1, 0, none⟩ = some (.bool true) := World.cell?_setCell_same _ _ _ c8
    generalize W5.setCell ⟨w.heap.size + 1, 0, none⟩ (.bool true) = W6 at *
    refine leave_one hD6 ⟨.bool true, ?_, rfl, k6.grown (grownBy_putObj' W6 D _) (fun k e => by cases e; exact .inr (by omega))⟩
    have hc7 : (W6.putObj D (.deferred none)).cell? ⟨w.heap.size + 1, 0, none⟩ = some (.bool true) := by
      rw [World.cell?_of_block (World.putObj_heap_other (by show w.heap.size + 1 ≠ D; omega))]; exact hc6
    simp [results, Try.f23, go_sem, hc7]
end Go.Proofs.Ytdmdebelcklfhaa
