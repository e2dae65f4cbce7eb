/-
  Heap[api.Key]: Drop.
-/
import Derived.Test.YtcipilggddpnpaaKhH
namespace Go.Proofs.Ytcipilggddpnpaa.K
open Go.RowKit Go.Sort Go.Shelf Go.Maps
set_option linter.unusedVariables false
set_option linter.unusedSimpArgs false

theorem getD_take (R : List Ent) (m i : Nat) (hi : i < m) : (R.take m).getD i (0, 0, 0) = R.getD i (0, 0, 0) := by
  simp only [List.getD_eq_getElem?_getD, List.getElem?_take, if_pos hi]

theorem RowAt.cut {w : World} {rb cap m : Nat} {R : List Ent} (h : RowAt w rb cap R) (hm : R.length = m + 1) (x y z : Value) :
    RowAt (((w.setCell ⟨rb, m * 3, none⟩ x).setCell ⟨rb, m * 3 + 1, none⟩ y).setCell ⟨rb, m * 3 + 2, none⟩ z) rb cap (R.take m) := by
  obtain ⟨⟨cur, h1, h2, h5⟩, h3, h4⟩ := h
  have hl : (R.take m).length = m := by simp; omega
  refine ⟨⟨((cur.setIfInBounds (m * 3) x).setIfInBounds (m * 3 + 1) y).setIfInBounds (m * 3 + 2) z, ?_, by simp [h2], ?_⟩, by omega, h4⟩
  · simp [World.setCell, Array.getElem?_modify, h1]
  · intro j hj
    rw [hl] at hj
    unfold rid rky
    rw [getD_take R m j hj]
    simp only [Array.getElem?_setIfInBounds]
    rw [if_neg (by omega), if_neg (by omega), if_neg (by omega), if_neg (by omega), if_neg (by omega), if_neg (by omega), if_neg (by omega), if_neg (by omega), if_neg (by omega)]
    exact h5 j (by omega)

theorem Places.del {D : DataW Unit} {R : List Ent} {m : Nat} (h : Places D R) (hm : R.length = m + 1) : Places (D.del (.int .i64 (rid R m))) (R.take m) := by
  have hl : (R.take m).length = m := by simp; omega
  have hr : ∀ i, i < m → rid (R.take m) i = rid R i := fun i hi => by unfold rid; rw [getD_take R m i hi]
  constructor
  · intro i hi
    rw [hl] at hi
    rw [hr i hi]
    have hne : rid R i ≠ rid R m := fun x => by have := h.inj (by omega) (by omega) x; omega
    rw [has_del_other (lit_ne hne), atKey_del_other (lit_ne hne)]
    exact h.at_ i (by omega)
  · intro id hno
    by_cases e : id = rid R m
    · rw [e]; exact has_del_same
    · rw [has_del_other (lit_ne e)]
      refine h.no id fun i hi x => ?_
      by_cases e2 : i < m
      · exact hno i (by omega) (by rw [hr i e2, x])
      · have : i = m := by omega
        subst this; exact e x.symm

/-- The heap behind the last entry's leaving. -/
theorem HeapIs.cut {w w3 : World} {hb rb mb cap m : Nat} {fv : Value} {R : List Ent} (h : HeapIs w hb rb mb cap fv R) (hm : R.length = m + 1) (D : DataW Unit) (hM : MapIs w mb R.length D) (hP : Places D R) (hS : Maps.size D = R.length)
    (hO3 : Obj3 w3 hb fv (.slice (some ⟨rb, 0, none⟩) m cap) (.map (some mb))) (hR3 : RowAt w3 rb cap (R.take m)) (hM3 : MapIs w3 mb R.length (D.del (.int .i64 (rid R m)))) : HeapIs w3 hb rb mb cap fv (R.take m) := by
  have hl : (R.take m).length = m := by simp; omega
  have hsz : Maps.size (D.del (.int .i64 (rid R m))) = m := by
    have := size_del (k := .int .i64 (rid R m)) (hM.tidy intKeys)
    rw [(hP.at_ m (by omega)).1, hS] at this
    simp at this
    omega
  have hsm := h.small
  refine ⟨by rw [hl]; exact hO3, hR3, ⟨_, ?_, hP.del hm, by rw [hl]; exact hsz⟩, h.apart, by omega, fun i hi => ?_, fun i hi => ?_⟩
  · have := hM3.tight
    rw [hsz] at this
    rw [hl]; exact this
  · unfold rid
    rw [getD_take R m i (by omega)]
    exact h.ids i (by omega)
  · unfold rky
    rw [getD_take R m i (by omega)]
    exact h.keys i (by omega)

set_option maxHeartbeats 4000000 in
set_option maxRecDepth 20000 in
theorem drop_there (g : Nat) (cb : Array Value) (lt : Ky → Ky → Bool) (w : World) (hb mb rb cap : Nat) (hl : LessIs g cb lt w (Mine hb mb (some rb))) (hW : Hp.Weak lt) (R : List Ent) (h : HeapIs w hb rb mb cap (.func (.func g) #[] cb) R) (hy : Hp.Heapy (ahd lt) (gt R) R.length) (i : Nat) (hi : i < R.length) :
    Calls Try.prog 73 #[.pointer (some ⟨hb, 0, none⟩), .int .i64 (rid R i)] w fun e w' => e = .returned (.tuple #[kv (rky R i), .int .i64 0]) ∧ ∃ R', (R.getD i (0, 0, 0) :: R').Perm R ∧ Hp.Heapy (ahd lt) (gt R') R'.length ∧
      HeapIs w' hb rb mb cap (.func (.func g) #[] cb) R' ∧ Kept (Mine hb mb (some rb)) w w' := by
  obtain ⟨m, hm⟩ : ∃ m, R.length = m + 1 := ⟨R.length - 1, by omega⟩
  have hsm := h.small
  have hbl := h.obj.lt
  have hrl := h.row.lt
  have hml := h.mb_lt
  have hkv : kv (rky R i) = .agg #[.int .i64 (rky R i).1, .int .i64 (rky R i).2] := rfl
  rw [hkv]
  clear hkv
  obtain ⟨W0, hW0⟩ : ∃ W0, w.alloc (.cells #[.int .i64 0, .int .i64 0] 37) = W0 := ⟨_, rfl⟩
  obtain ⟨W1, hW1⟩ : ∃ W1, (W0.setCell ⟨w.heap.size, 0, none⟩ (.int .i64 (rky R i).1)).setCell ⟨w.heap.size, 1, none⟩ (.int .i64 (rky R i).2) = W1 := ⟨_, rfl⟩
  have g0 : Grew w W0 := by rw [← hW0]; exact (Grew.refl w).alloc _
  have g1 : Grew w W1 := by rw [← hW1]; exact (g0.setCell (Nat.le_refl _) _).setCell (Nat.le_refl _) _
  have hs0 : W0.heap.size = w.heap.size + 1 := by rw [← hW0]; simp
  have hs1 : W1.heap.size = w.heap.size + 1 := by rw [← hW1]; simpa [World.setCell] using hs0
  have u0 : W0.cell? ⟨w.heap.size, 0, none⟩ = some (.int .i64 0) := by rw [← hW0]; simp [go_sem]
  have u1 : W0.cell? ⟨w.heap.size, 1, none⟩ = some (.int .i64 0) := by rw [← hW0]; simp [go_sem]
  have u2 : W0.frozen? ⟨w.heap.size, 0, none⟩ = false := by rw [← hW0]; simp [go_sem]
  have u3 : W0.frozen? ⟨w.heap.size, 1, none⟩ = false := by rw [← hW0]; simp [go_sem]
  have s0 : W1.cell? ⟨w.heap.size, 0, none⟩ = some (.int .i64 (rky R i).1) := by rw [← hW1]; simp [go_sem, u0, u1]
  have s1 : W1.cell? ⟨w.heap.size, 1, none⟩ = some (.int .i64 (rky R i).2) := by rw [← hW1]; simp [go_sem, u0, u1]
  have s2 : W1.frozen? ⟨w.heap.size, 0, none⟩ = false := by rw [← hW1]; simp [go_sem, u2]
  have s3 : W1.frozen? ⟨w.heap.size, 1, none⟩ = false := by rw [← hW1]; simp [go_sem, u3]
  -- the result's variable is kept by whatever keeps all but the heap's blocks
  have BX : Hid (∀ W, Kept (Mine hb mb (some rb)) W1 W → W.cell? ⟨w.heap.size, 0, none⟩ = some (.int .i64 (rky R i).1) ∧ W.cell? ⟨w.heap.size, 1, none⟩ = some (.int .i64 (rky R i).2) ∧ W.frozen? ⟨w.heap.size, 0, none⟩ = false ∧ W.frozen? ⟨w.heap.size, 1, none⟩ = false) := fun W k => by
    have e0 : w.heap.size < W1.heap.size := by omega
    have e1 : ¬ Mine hb mb (some rb) w.heap.size := by
      rintro (e | e | e)
      · omega
      · omega
      · cases e; omega
    exact ⟨(k.cell (p := ⟨w.heap.size, 0, none⟩) e0 e1).trans s0, (k.cell (p := ⟨w.heap.size, 1, none⟩) e0 e1).trans s1, (k.frozen (p := ⟨w.heap.size, 0, none⟩) e0 e1).trans s2, (k.frozen (p := ⟨w.heap.size, 1, none⟩) e0 e1).trans s3⟩
  have HG1 := Lib.hid g1
  have h0 := h.grew g0
  have h := h.grew g1
  have C1 := Lib.hid (HP.find_there (.inr ⟨rb, cap, rfl, h0⟩) hi)
  have C2 := Lib.hid (swap_any hb rb mb cap _ R i m hi (by omega) W1 h)
  have c1 := h0.obj.c1
  have r1 := h0.row.cell1 hi
  have r2 := h0.row.cell2 hi
  have c3 := h.obj.c1
  rw [hm] at c1 c3
  have hi' : (i : Int) < (m : Int) + 1 := by omega
  have hwm : IntKind.i64.wrap ((m : Int) + 1 - 1) = (m : Int) := by rw [IntKind.wrap_i64]; omega
  have hwm1 : IntKind.i64.wrap ((m : Int) + 1) = (m : Int) + 1 := by rw [IntKind.wrap_i64]; omega
  have hx1 : hb ≠ w.heap.size := by omega
  have hx2 : rb ≠ w.heap.size := by omega
  have hx3 : mb ≠ w.heap.size := by omega
  have hap := h.apart
  have hmb := h.mb_ne
  have hkey : keyOf Try.prog 3 (.int .i64 (rid R i)) = some (.int .i64 (rid R i)) := keyOf_int_mk Try.underlying3 (WalkArith.wf_i64 (h.ids i hi).2)
  -- behind the exchange
  have X : ∀ w1, HeapIs w1 hb rb mb cap (.func (.func g) #[] cb) (swp2 R i m) → ∃ D, MapIs w1 mb R.length D ∧ Places D (swp2 R i m) ∧ Maps.size D = R.length ∧ RowAt w1 rb cap (swp2 R i m) ∧ Obj3 w1 hb (.func (.func g) #[] cb) (.slice (some ⟨rb, 0, none⟩) (m + 1) cap) (.map (some mb)) := fun w1 h1 => by
    obtain ⟨D, a1, a2, a3⟩ := h1.map
    rw [len_swp2] at a1 a3
    have := h1.obj
    rw [len_swp2, hm] at this
    exact ⟨D, a1, a2, a3, h1.row, this⟩
  have hls : (swp2 R i m).length = m + 1 := by rw [len_swp2]; exact hm
  have hsw : ∀ j, (swp2 R i m).getD j (0, 0, 0) = if j = m then R.getD i (0, 0, 0) else if j = i then R.getD m (0, 0, 0) else R.getD j (0, 0, 0) := fun j => getD_swp2 R i m j hi (by omega)
  have hlast : rid (swp2 R i m) m = rid R i := by unfold rid; rw [hsw m, if_pos rfl]
  have hrc : cap ≤ maxLen ∧ m + 1 ≤ cap := ⟨h.row.room, by rw [← hm]; exact h.row.len⟩
  have H0 : Hid (HeapIs W1 hb rb mb cap (.func (.func g) #[] cb) R ∧ Hp.Heapy (ahd lt) (gt R) R.length ∧ LessIs g cb lt w (Mine hb mb (some rb)) ∧ Hp.Weak lt ∧ R.length = m + 1 ∧ (swp2 R i m).length = m + 1 ∧ rid (swp2 R i m) m = rid R i) := ⟨h, hy, hl, hW, hm, hls, hlast⟩
  have HSW := Lib.hid hsw
  have HX := Lib.hid X
  clear h h0 hy hl hW hls hlast hsw X g0 g1 hs0 hs1 hbl hrl hml
  generalize hidn : rid R i = id at *
  generalize hkn : (rky R i).1 = k at *
  generalize hkn2 : (rky R i).2 = k2 at *
  go_enter Try.func73, Try.ntmps73
  go_wp2_with (first | (go_at_call 79; refine C1.out.mono ?_; rintro e w' ⟨rfl, rfl⟩) | (go_at_call 94; refine C2.out.mono ?_; rintro e w1 ⟨rfl, hh1, hk1⟩; have HH1 := Lib.hid hh1; have HK1 := Lib.hid hk1; clear hh1 hk1; obtain ⟨D, a1, a2, a3, a4, a5⟩ := HX.out w1 HH1.out; have d1 := a5.c1; have d2 := a5.c2; have A := Lib.hid (And.intro a1 (And.intro a2 (And.intro a3 (And.intro a4 a5)))); clear a1 a2 a3 a4 a5))
  obtain ⟨a1, a2, a3, a4, a5⟩ := A.out
  have hml : m < (swp2 R i m).length := by rw [H0.out.2.2.2.2.2.1]; omega
  refine (delete_last rb cap m hrc.2 hrc.1 w1 _ _ _ (a4.cell0 hml) (a4.cell1 hml) (a4.cell2 hml) a4.thaw).mono ?_
  rintro e w2 ⟨rfl, q, hw2⟩
  have hO2 : Obj3 w2 hb (.func (.func g) #[] cb) (.slice (some ⟨rb, 0, none⟩) (m + 1) cap) (.map (some mb)) := a5.kept (by
    rw [hw2]
    show ((((w1.setCell _ _).setCell _ _).setCell _ _).heap)[hb]? = _
    rw [Below.heap_setCell _ _ _ _ (by exact hap), Below.heap_setCell _ _ _ _ (by exact hap), Below.heap_setCell _ _ _ _ (by exact hap)])
  have hR2 : RowAt w2 rb cap ((swp2 R i m).take m) := RowAt.kept (a4.cut H0.out.2.2.2.2.2.1 (.int .i64 0) (.int .i64 0) (.int .i64 0)) (by rw [hw2]; rfl)
  have hM2 : MapIs w2 mb R.length D := a1.keptBy (by
    rw [hw2]
    show ((((w1.setCell _ _).setCell _ _).setCell _ _).heap)[mb]? = _
    rw [Below.heap_setCell _ _ _ _ (by exact hmb.2), Below.heap_setCell _ _ _ _ (by exact hmb.2), Below.heap_setCell _ _ _ _ (by exact hmb.2)])
  have hK2 : Kept (Two rb mb) w1 w2 := by
    rw [hw2]
    have := (((Kept.refl (Two rb mb) w1).setCell (p := ⟨rb, m * 3, none⟩) (.inl (.inl rfl)) (.int .i64 0)).setCell (p := ⟨rb, m * 3 + 1, none⟩) (.inl (.inl rfl)) (.int .i64 0)).setCell (p := ⟨rb, m * 3 + 2, none⟩) (.inl (.inl rfl)) (.int .i64 0)
    exact ⟨this.os, this.tape, this.output, this.size, this.block⟩
  have e1 := hO2.c1
  have e2 := hO2.c2
  have e3 := hO2.thaw 1
  have HM3 := Lib.hid (hM2.setCell (a := ⟨hb, 1, none⟩) hmb.1 (.slice (some ⟨rb, 0, none⟩) m cap))
  have B : Hid (Obj3 w2 hb (.func (.func g) #[] cb) (.slice (some ⟨rb, 0, none⟩) (m + 1) cap) (.map (some mb)) ∧ RowAt w2 rb cap ((swp2 R i m).take m) ∧ Kept (Two rb mb) W1 w2) := ⟨hO2, hR2, HK1.out.trans hK2⟩
  clear hw2 hO2 hR2 hM2 hK2 a1 a2 a3 a4 a5 d1 d2
  have fin : Hid (∀ w3 : World, MapIs w3 mb R.length (D.del (.int .i64 id)) → (w2.setCell ⟨hb, 1, none⟩ (.slice (some ⟨rb, 0, none⟩) m cap)).mapTurned w3 mb → HeapIs w3 hb rb mb cap (.func (.func g) #[] cb) ((swp2 R i m).take m) ∧ Kept (Mine hb mb (some rb)) W1 w3) := fun w3 hown3 hturn3 => by
    obtain ⟨b1, b2, b3⟩ := B.out
    obtain ⟨a1, a2, a3, a4, a5⟩ := A.out
    have hg := hturn3.grown
    have hO3 := (b1.put (.slice (some ⟨rb, 0, none⟩) m cap)).grown hg (by simpa using fun e => hmb.1 e.symm)
    have hR3 : RowAt w3 rb cap ((swp2 R i m).take m) := b2.kept (by
      rw [hg.block rb (by simpa [World.setCell] using b2.lt) (by simpa using fun e => hmb.2 e.symm), Below.heap_setCell _ _ _ _ (by exact fun e => hap e.symm)])
    refine ⟨HH1.out.cut H0.out.2.2.2.2.2.1 D (by rw [len_swp2]; exact a1) a2 (by rw [len_swp2]; exact a3) hO3 hR3 (by rw [len_swp2, H0.out.2.2.2.2.2.2]; exact hown3), ?_⟩
    have h1 : Kept (Mine hb mb (some rb)) W1 w2 := b3.mono (fun k _ hk => by rcases hk with e | e; exact .inr (.inr (by rw [e])); exact .inr (.inl e))
    exact (h1.setCell (p := ⟨hb, 1, none⟩) (.inl (.inl rfl)) _).grown hg (fun k e => by cases e; exact .inl (.inr (.inl rfl)))
  have hlt2 : ((swp2 R i m).take m).length = m := by rw [List.length_take, H0.out.2.2.2.2.2.1]; omega
  have hp2 : (R.getD i (0, 0, 0) :: (swp2 R i m).take m).Perm R := by
    have h1 := swp2_perm R hi (show m < R.length by omega)
    have h2 : (swp2 R i m).take m ++ [R.getD i (0, 0, 0)] = swp2 R i m := by
      have h3 : (swp2 R i m)[m]? = some (R.getD i (0, 0, 0)) := by
        have := HSW.out m
        rw [if_pos rfl, List.getD_eq_getElem?_getD] at this
        rw [List.getElem?_eq_getElem hml] at this ⊢
        simpa using this
      have h4 := List.take_append_drop m (swp2 R i m)
      have h5 : (swp2 R i m).drop m = [R.getD i (0, 0, 0)] := by
        rw [List.drop_eq_getElem_cons hml]
        rw [List.getElem?_eq_getElem hml] at h3
        simp only [Option.some.injEq] at h3
        rw [h3, List.drop_eq_nil_of_le (by rw [H0.out.2.2.2.2.2.1]; omega)]
      rw [h5] at h4
      exact h4
    rw [← h2] at h1
    exact (List.perm_append_comm (l₁ := [R.getD i (0, 0, 0)])).trans h1
  have HP2 : Hid ((R.getD i (0, 0, 0) :: (swp2 R i m).take m).Perm R ∧ ((swp2 R i m).take m).length = m) := ⟨hp2, hlt2⟩
  clear hp2 hlt2
  by_cases him : i < m
  · have him' : decide ((i : Int) < (m : Int)) = true := decide_eq_true (by omega)
    go_wp2_with (at_delete; refine wpList_delete_own _ rfl _ _ 66 3 rfl 3 intKeys Try.underlying66 _ mb R.length D rfl HM3.out _ _ rfl hkey ?_; intro w3 hown3 hturn3; have hH3 := Lib.hid (fin.out w3 hown3 hturn3); clear hown3 hturn3)
    have hri : Hp.Rises (ahd lt) (gt ((swp2 R i m).take m)) ((swp2 R i m).take m).length i False := by
      rw [HP2.out.2]
      have hy := H0.out.2.1
      rw [hm] at hy
      have t := (hy.cut (m := m) (by omega)).turned (ahd_weak H0.out.2.2.2.1) (p := i) (e' := fun j => if j = i then gt R m else gt R j) him (fun j hj => if_neg hj) False (fun x => x)
      refine t.congr him fun j hj => ?_
      show ((swp2 R i m).take m).getD j (0, 0, 0) = _
      rw [getD_take _ m j hj, HSW.out j, if_neg (by omega)]
    refine (settle_any g cb lt w (Mine hb mb (some rb)) H0.out.2.2.1 H0.out.2.2.2.1 hb rb mb cap _ i (by rw [HP2.out.2]; exact him) hri w3 hH3.out.1 ((HG1.out.kept _).trans hH3.out.2) (fun k hk => by rcases hk with e | e; exact .inl (.inr (.inr (by rw [e]))); exact .inl (.inr (.inl e)))).mono ?_
    rintro e w4 ⟨rfl, R4, hp4, hy4, hh4, hk4⟩
    have HF : Hid ((R.getD i (0, 0, 0) :: R4).Perm R ∧ Hp.Heapy (ahd lt) (gt R4) R4.length ∧ HeapIs w4 hb rb mb cap (.func (.func g) #[] cb) R4 ∧ Kept (Mine hb mb (some rb)) W1 w4) :=
      ⟨(hp4.cons _).trans HP2.out.1, by rw [hp4.length_eq]; exact hy4, hh4, hH3.out.2.andThen hk4 (fun k hk => by rcases hk with e | e; exact .inl (.inr (.inr (by rw [e]))); exact .inl (.inr (.inl e)))⟩
    clear hp4 hy4 hh4 hk4 hri
    obtain ⟨v1, v2, v3, v4⟩ := BX.out w4 HF.out.2.2.2
    go_wp2
    refine bodyPost_ret (v := .tuple #[.agg #[.int .i64 k, .int .i64 k2], .int .i64 0]) (by simp [results, Try.f73, go_sem, v1, v2]) rfl ⟨rfl, ?_⟩
    refine ⟨R4, HF.out.1, HF.out.2.1, HF.out.2.2.1.keptBy (by rw [Below.heap_setCell _ _ _ _ (by exact hx1), Below.heap_setCell _ _ _ _ (by exact hx1)]) (by rw [Below.heap_setCell _ _ _ _ (by exact hx2), Below.heap_setCell _ _ _ _ (by exact hx2)]) (by rw [Below.heap_setCell _ _ _ _ (by exact hx3), Below.heap_setCell _ _ _ _ (by exact hx3)]), ?_⟩
    exact (((HG1.out.kept _).trans HF.out.2.2.2).setCell (.inr (Nat.le_refl _)) _).setCell (.inr (Nat.le_refl _)) _
  · have him' : decide ((i : Int) < (m : Int)) = false := decide_eq_false (by omega)
    go_wp2_with (at_delete; refine wpList_delete_own _ rfl _ _ 66 3 rfl 3 intKeys Try.underlying66 _ mb R.length D rfl HM3.out _ _ rfl hkey ?_; intro w3 hown3 hturn3; have hH3 := Lib.hid (fin.out w3 hown3 hturn3); clear hown3 hturn3; obtain ⟨v1, v2, v3, v4⟩ := BX.out w3 hH3.out.2)
    refine bodyPost_ret (v := .tuple #[.agg #[.int .i64 k, .int .i64 k2], .int .i64 0]) (by simp [results, Try.f73, go_sem, v1, v2]) rfl ⟨rfl, ?_⟩
    refine ⟨_, HP2.out.1, ?_, hH3.out.1.keptBy (by rw [Below.heap_setCell _ _ _ _ (by exact hx1), Below.heap_setCell _ _ _ _ (by exact hx1)]) (by rw [Below.heap_setCell _ _ _ _ (by exact hx2), Below.heap_setCell _ _ _ _ (by exact hx2)]) (by rw [Below.heap_setCell _ _ _ _ (by exact hx3), Below.heap_setCell _ _ _ _ (by exact hx3)]), (((HG1.out.kept _).trans hH3.out.2).setCell (.inr (Nat.le_refl _)) _).setCell (.inr (Nat.le_refl _)) _⟩
    rw [HP2.out.2]
    have hy := H0.out.2.1
    rw [hm] at hy
    refine (hy.cut (m := m) (by omega)).congr fun j hj => ?_
    show ((swp2 R i m).take m).getD j (0, 0, 0) = _
    rw [getD_take _ m j hj, HSW.out j, if_neg (by omega), if_neg (by omega)]
end Go.Proofs.Ytcipilggddpnpaa.K
