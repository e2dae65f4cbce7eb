/-
  Heap[int]: Drop, Take.
-/
import Derived.Test.YtcipilggddpnpaaHpH
namespace Go.Proofs.Ytcipilggddpnpaa
open Go.RowKit Go.Sort Go.Shelf Go.Maps
set_option linter.unusedVariables false
set_option linter.unusedSimpArgs false

theorem getD_take (R : List Ent) (m i : Nat) (hi : i < m) : (R.take m).getD i (0, 0) = R.getD i (0, 0) := by
  simp only [List.getD_eq_getElem?_getD, List.getElem?_take, if_pos hi]

theorem RowAt.cut {w : World} {rb cap m : Nat} {R : List Ent} (h : RowAt w rb cap R) (hm : R.length = m + 1) (x y : Value) :
    RowAt ((w.setCell ⟨rb, m * 2, none⟩ x).setCell ⟨rb, m * 2 + 1, none⟩ y) rb cap (R.take m) := by
  obtain ⟨⟨cur, h1, h2, h5⟩, h3, h4⟩ := h
  have hl : (R.take m).length = m := by simp; omega
  refine ⟨⟨(cur.setIfInBounds (m * 2) x).setIfInBounds (m * 2 + 1) y, ?_, by simp [h2], ?_⟩, by omega, h4⟩
  · simp [World.setCell, Array.getElem?_modify, h1]
  · intro j hj
    rw [hl] at hj
    unfold rid rky
    rw [getD_take R m j hj]
    simp only [Array.getElem?_setIfInBounds]
    rw [if_neg (by omega), if_neg (by omega), if_neg (by omega), if_neg (by omega)]
    exact h5 j (by omega)

theorem Places.del {D : DataW Unit} {R : List Ent} {m : Nat} (h : Places D R) (hm : R.length = m + 1) : Places (D.del (.int .i64 (rid R m))) (R.take m) := by
  have hl : (R.take m).length = m := by simp; omega
  have hr : ∀ i, i < m → rid (R.take m) i = rid R i := fun i hi => by unfold rid; rw [getD_take R m i hi]
  constructor
  · intro i hi
    rw [hl] at hi
    rw [hr i hi]
    have hne : rid R i ≠ rid R m := fun x => by have := h.inj (by omega) (by omega) x; omega
    rw [has_del_other (lit_ne hne), atKey_del_other (lit_ne hne)]
    exact h.at_ i (by omega)
  · intro id hno
    by_cases e : id = rid R m
    · rw [e]; exact has_del_same
    · rw [has_del_other (lit_ne e)]
      refine h.no id fun i hi x => ?_
      by_cases e2 : i < m
      · exact hno i (by omega) (by rw [hr i e2, x])
      · have : i = m := by omega
        subst this; exact e x.symm

/-- The heap behind the last entry's leaving. -/
theorem HeapIs.cut {w w3 : World} {hb rb mb cap m : Nat} {fv : Value} {R : List Ent} (h : HeapIs w hb rb mb cap fv R) (hm : R.length = m + 1) (D : DataW Unit) (hM : MapIs w mb R.length D) (hP : Places D R) (hS : Maps.size D = R.length)
    (hO3 : Obj3 w3 hb fv (.slice (some ⟨rb, 0, none⟩) m cap) (.map (some mb))) (hR3 : RowAt w3 rb cap (R.take m)) (hM3 : MapIs w3 mb R.length (D.del (.int .i64 (rid R m)))) : HeapIs w3 hb rb mb cap fv (R.take m) := by
  have hl : (R.take m).length = m := by simp; omega
  have hsz : Maps.size (D.del (.int .i64 (rid R m))) = m := by
    have := size_del (k := .int .i64 (rid R m)) (hM.tidy intKeys)
    rw [(hP.at_ m (by omega)).1, hS] at this
    simp at this
    omega
  have hsm := h.small
  refine ⟨by rw [hl]; exact hO3, hR3, ⟨_, ?_, hP.del hm, by rw [hl]; exact hsz⟩, h.apart, by omega, fun i hi => ?_, fun i hi => ?_⟩
  · have := hM3.tight
    rw [hsz] at this
    rw [hl]; exact this
  · unfold rid
    rw [getD_take R m i (by omega)]
    exact h.ids i (by omega)
  · unfold rky
    rw [getD_take R m i (by omega)]
    exact h.keys i (by omega)

set_option maxHeartbeats 1000000 in
theorem drop_none (w : World) (hb mb : Nat) (ro : Option Nat) (fv : Value) (R : List Ent) (h : HP w hb mb ro fv R) (id : Int) (hid : Is64 id) (hn : ∀ i, i < R.length → rid R i ≠ id) :
    Calls Try.prog 11 #[.pointer (some ⟨hb, 0, none⟩), .int .i64 id] w fun e w' => e = .returned (.tuple #[.int .i64 0, .int .i64 14]) ∧ w = w' := by
  have C := Lib.hid (h.find_none hid hn)
  clear h hn hid
  go_enter Try.func11, Try.ntmps11
  go_wp2_with (go_at_call 34; refine C.out.mono ?_; rintro e w' ⟨rfl, rfl⟩)
  go_ret2
  exact ⟨rfl, rfl⟩

set_option maxHeartbeats 4000000 in
set_option maxRecDepth 20000 in
theorem drop_there (g : Nat) (cb : Array Value) (lt : Int → Int → Bool) (hl : LessIs g cb lt) (hW : Hp.Weak lt) (w : World) (hb mb rb cap : Nat) (R : List Ent) (h : HeapIs w hb rb mb cap (.func (.func g) #[] cb) R) (hy : Hp.Heapy (ahd lt) (gt R) R.length) (i : Nat) (hi : i < R.length) :
    Calls Try.prog 11 #[.pointer (some ⟨hb, 0, none⟩), .int .i64 (rid R i)] w fun e w' => e = .returned (.tuple #[.int .i64 (rky R i), .int .i64 0]) ∧ ∃ R', (R.getD i (0, 0) :: R').Perm R ∧ Hp.Heapy (ahd lt) (gt R') R'.length ∧
      HeapIs w' hb rb mb cap (.func (.func g) #[] cb) R' ∧ Kept (Mine hb mb (some rb)) w w' := by
  obtain ⟨m, hm⟩ : ∃ m, R.length = m + 1 := ⟨R.length - 1, by omega⟩
  have hsm := h.small
  have C1 := Lib.hid (HP.find_there (.inr ⟨rb, cap, rfl, h⟩) hi)
  have C2 := Lib.hid (swap_any hb rb mb cap _ R i m hi (by omega) w h)
  have c1 := h.obj.c1
  have c2 := h.obj.c2
  have r1 := h.row.cell1 hi
  rw [hm] at c1
  have hi' : (i : Int) < (m : Int) + 1 := by omega
  have hwm : IntKind.i64.wrap ((m : Int) + 1 - 1) = (m : Int) := by rw [IntKind.wrap_i64]; omega
  have hwm1 : IntKind.i64.wrap ((m : Int) + 1) = (m : Int) + 1 := by rw [IntKind.wrap_i64]; omega
  have hap := h.apart
  have hmb := h.mb_ne
  have hkey : keyOf Try.prog 3 (.int .i64 (rid R i)) = some (.int .i64 (rid R i)) := keyOf_int_mk Try.underlying3 (WalkArith.wf_i64 (h.ids i hi).2)
  -- behind the exchange
  have X : ∀ w1, HeapIs w1 hb rb mb cap (.func (.func g) #[] cb) (swp2 R i m) → ∃ D, MapIs w1 mb R.length D ∧ Places D (swp2 R i m) ∧ Maps.size D = R.length ∧ RowAt w1 rb cap (swp2 R i m) ∧ Obj3 w1 hb (.func (.func g) #[] cb) (.slice (some ⟨rb, 0, none⟩) (m + 1) cap) (.map (some mb)) := fun w1 h1 => by
    obtain ⟨D, a1, a2, a3⟩ := h1.map
    rw [len_swp2] at a1 a3
    have := h1.obj
    rw [len_swp2, hm] at this
    exact ⟨D, a1, a2, a3, h1.row, this⟩
  have hls : (swp2 R i m).length = m + 1 := by rw [len_swp2]; exact hm
  have hsw : ∀ j, (swp2 R i m).getD j (0, 0) = if j = m then R.getD i (0, 0) else if j = i then R.getD m (0, 0) else R.getD j (0, 0) := fun j => getD_swp2 R i m j hi (by omega)
  have hlast : rid (swp2 R i m) m = rid R i := by unfold rid; rw [hsw m, if_pos rfl]
  have hrc : cap ≤ maxLen ∧ m + 1 ≤ cap := ⟨h.row.room, by rw [← hm]; exact h.row.len⟩
  have H0 : Hid (HeapIs w hb rb mb cap (.func (.func g) #[] cb) R ∧ Hp.Heapy (ahd lt) (gt R) R.length ∧ LessIs g cb lt ∧ Hp.Weak lt ∧ R.length = m + 1 ∧ (swp2 R i m).length = m + 1 ∧ rid (swp2 R i m) m = rid R i) := ⟨h, hy, hl, hW, hm, hls, hlast⟩
  have HSW := Lib.hid hsw
  have HX := Lib.hid X
  clear h hy hl hW hls hlast hsw X
  generalize hidn : rid R i = id at *
  generalize hkn : rky R i = k at *
  go_enter Try.func11, Try.ntmps11
  go_wp2_with (first | (go_at_call 34; refine C1.out.mono ?_; rintro e w' ⟨rfl, rfl⟩) | (go_at_call 35; refine C2.out.mono ?_; rintro e w1 ⟨rfl, hh1, hk1⟩; have HH1 := Lib.hid hh1; have HK1 := Lib.hid hk1; clear hh1 hk1; obtain ⟨D, a1, a2, a3, a4, a5⟩ := HX.out w1 HH1.out; have d1 := a5.c1; have d2 := a5.c2; have A := Lib.hid (And.intro a1 (And.intro a2 (And.intro a3 (And.intro a4 a5)))); clear a1 a2 a3 a4 a5))
  obtain ⟨a1, a2, a3, a4, a5⟩ := A.out
  have hml : m < (swp2 R i m).length := by rw [H0.out.2.2.2.2.2.1]; omega
  refine (delete_last rb cap m hrc.2 hrc.1 w1 _ _ (a4.cell0 hml) (a4.cell1 hml) a4.thaw).mono ?_
  rintro e w2 ⟨rfl, q, hw2⟩
  have hO2 : Obj3 w2 hb (.func (.func g) #[] cb) (.slice (some ⟨rb, 0, none⟩) (m + 1) cap) (.map (some mb)) := a5.kept (by
    rw [hw2]
    show (((w1.setCell _ _).setCell _ _).heap)[hb]? = _
    rw [Below.heap_setCell _ _ _ _ (by exact hap), Below.heap_setCell _ _ _ _ (by exact hap)])
  have hR2 : RowAt w2 rb cap ((swp2 R i m).take m) := RowAt.kept (a4.cut H0.out.2.2.2.2.2.1 (.int .i64 0) (.int .i64 0)) (by rw [hw2]; rfl)
  have hM2 : MapIs w2 mb R.length D := a1.keptBy (by
    rw [hw2]
    show (((w1.setCell _ _).setCell _ _).heap)[mb]? = _
    rw [Below.heap_setCell _ _ _ _ (by exact hmb.2), Below.heap_setCell _ _ _ _ (by exact hmb.2)])
  have hK2 : Kept (Two rb mb) w1 w2 := by
    rw [hw2]
    have := ((Kept.refl (Two rb mb) w1).setCell (p := ⟨rb, m * 2, none⟩) (.inl (.inl rfl)) (.int .i64 0)).setCell (p := ⟨rb, m * 2 + 1, none⟩) (.inl (.inl rfl)) (.int .i64 0)
    exact ⟨this.os, this.tape, this.output, this.size, this.block⟩
  have e1 := hO2.c1
  have e2 := hO2.c2
  have e3 := hO2.thaw 1
  have HM3 := Lib.hid (hM2.setCell (a := ⟨hb, 1, none⟩) hmb.1 (.slice (some ⟨rb, 0, none⟩) m cap))
  have B : Hid (Obj3 w2 hb (.func (.func g) #[] cb) (.slice (some ⟨rb, 0, none⟩) (m + 1) cap) (.map (some mb)) ∧ RowAt w2 rb cap ((swp2 R i m).take m) ∧ Kept (Two rb mb) w w2) := ⟨hO2, hR2, HK1.out.trans hK2⟩
  clear hw2 hO2 hR2 hM2 hK2 a1 a2 a3 a4 a5 d1 d2
  have fin : Hid (∀ w3 : World, MapIs w3 mb R.length (D.del (.int .i64 id)) → (w2.setCell ⟨hb, 1, none⟩ (.slice (some ⟨rb, 0, none⟩) m cap)).mapTurned w3 mb → HeapIs w3 hb rb mb cap (.func (.func g) #[] cb) ((swp2 R i m).take m) ∧ Kept (Mine hb mb (some rb)) w w3) := fun w3 hown3 hturn3 => by
    obtain ⟨b1, b2, b3⟩ := B.out
    obtain ⟨a1, a2, a3, a4, a5⟩ := A.out
    have hg := hturn3.grown
    have hO3 := (b1.put (.slice (some ⟨rb, 0, none⟩) m cap)).grown hg (by simpa using fun e => hmb.1 e.symm)
    have hR3 : RowAt w3 rb cap ((swp2 R i m).take m) := b2.kept (by
      rw [hg.block rb (by simpa [World.setCell] using b2.lt) (by simpa using fun e => hmb.2 e.symm), Below.heap_setCell _ _ _ _ (by exact fun e => hap e.symm)])
    refine ⟨HH1.out.cut H0.out.2.2.2.2.2.1 D (by rw [len_swp2]; exact a1) a2 (by rw [len_swp2]; exact a3) hO3 hR3 (by rw [len_swp2, H0.out.2.2.2.2.2.2]; exact hown3), ?_⟩
    have h1 : Kept (Mine hb mb (some rb)) w w2 := b3.mono (fun k _ hk => by rcases hk with e | e; exact .inr (.inr (by rw [e])); exact .inr (.inl e))
    exact (h1.setCell (p := ⟨hb, 1, none⟩) (.inl (.inl rfl)) _).grown hg (fun k e => by cases e; exact .inl (.inr (.inl rfl)))
  have hlt2 : ((swp2 R i m).take m).length = m := by rw [List.length_take, H0.out.2.2.2.2.2.1]; omega
  have hp2 : (R.getD i (0, 0) :: (swp2 R i m).take m).Perm R := by
    have h1 := swp2_perm R hi (show m < R.length by omega)
    have h2 : (swp2 R i m).take m ++ [R.getD i (0, 0)] = swp2 R i m := by
      have h3 : (swp2 R i m)[m]? = some (R.getD i (0, 0)) := by
        have := HSW.out m
        rw [if_pos rfl, List.getD_eq_getElem?_getD] at this
        rw [List.getElem?_eq_getElem hml] at this ⊢
        simpa using this
      have h4 := List.take_append_drop m (swp2 R i m)
      have h5 : (swp2 R i m).drop m = [R.getD i (0, 0)] := by
        rw [List.drop_eq_getElem_cons hml]
        rw [List.getElem?_eq_getElem hml] at h3
        simp only [Option.some.injEq] at h3
        rw [h3, List.drop_eq_nil_of_le (by rw [H0.out.2.2.2.2.2.1]; omega)]
      rw [h5] at h4
      exact h4
    rw [← h2] at h1
    exact (List.perm_append_comm (l₁ := [R.getD i (0, 0)])).trans h1
  have HP2 : Hid ((R.getD i (0, 0) :: (swp2 R i m).take m).Perm R ∧ ((swp2 R i m).take m).length = m) := ⟨hp2, hlt2⟩
  clear hp2 hlt2
  by_cases him : i < m
  · have him' : decide ((i : Int) < (m : Int)) = true := decide_eq_true (by omega)
    go_wp2_with (at_delete; refine wpList_delete_own _ rfl _ _ 66 3 rfl 3 intKeys Try.underlying66 _ mb R.length D rfl HM3.out _ _ rfl hkey ?_; intro w3 hown3 hturn3; have hH3 := Lib.hid (fin.out w3 hown3 hturn3); clear hown3 hturn3)
    have hri : Hp.Rises (ahd lt) (gt ((swp2 R i m).take m)) ((swp2 R i m).take m).length i False := by
      rw [HP2.out.2]
      have hy := H0.out.2.1
      rw [hm] at hy
      have t := (hy.cut (m := m) (by omega)).turned (ahd_weak H0.out.2.2.2.1) (p := i) (e' := fun j => if j = i then gt R m else gt R j) him (fun j hj => if_neg hj) False (fun x => x)
      refine t.congr him fun j hj => ?_
      show ((swp2 R i m).take m).getD j (0, 0) = _
      rw [getD_take _ m j hj, HSW.out j, if_neg (by omega)]
    refine (settle_any g cb lt H0.out.2.2.1 H0.out.2.2.2.1 hb rb mb cap _ i (by rw [HP2.out.2]; exact him) hri w3 hH3.out.1).mono ?_
    rintro e w4 ⟨rfl, R4, hp4, hy4, hh4, hk4⟩
    have HF : Hid ((R.getD i (0, 0) :: R4).Perm R ∧ Hp.Heapy (ahd lt) (gt R4) R4.length ∧ HeapIs w4 hb rb mb cap (.func (.func g) #[] cb) R4 ∧ Kept (Mine hb mb (some rb)) w w4) :=
      ⟨(hp4.cons _).trans HP2.out.1, by rw [hp4.length_eq]; exact hy4, hh4, hH3.out.2.andThen hk4 (fun k hk => by rcases hk with e | e; exact .inl (.inr (.inr (by rw [e]))); exact .inl (.inr (.inl e)))⟩
    clear hp4 hy4 hh4 hk4 hri
    go_wp2
    go_ret2
    exact ⟨rfl, R4, HF.out⟩
  · have him' : decide ((i : Int) < (m : Int)) = false := decide_eq_false (by omega)
    go_wp2_with (at_delete; refine wpList_delete_own _ rfl _ _ 66 3 rfl 3 intKeys Try.underlying66 _ mb R.length D rfl HM3.out _ _ rfl hkey ?_; intro w3 hown3 hturn3; have hH3 := Lib.hid (fin.out w3 hown3 hturn3); clear hown3 hturn3)
    go_ret2
    refine ⟨rfl, _, HP2.out.1, ?_, hH3.out.1, hH3.out.2⟩
    rw [HP2.out.2]
    have hy := H0.out.2.1
    rw [hm] at hy
    refine (hy.cut (m := m) (by omega)).congr fun j hj => ?_
    show ((swp2 R i m).take m).getD j (0, 0) = _
    rw [getD_take _ m j hj, HSW.out j, if_neg (by omega), if_neg (by omega)]
end Go.Proofs.Ytcipilggddpnpaa
