/-
  The law's same: it tells that a heap holds what the reference does.
-/
import Derived.Test.YtdmdebelcklfhaaSyM
import Derived.Test.YtdmdebelcklfhaaLv
import Derived.BigQuiet
import Derived.Test.YtdmdebelcklfhaaDoE
namespace Go.Proofs.Ytdmdebelcklfhaa
open Go.RowKit Go.Sort Go.Shelf Go.Maps
set_option linter.unusedVariables false
set_option linter.unusedSimpArgs false
attribute [local go_sem] Oper.semAt_some

theorem sorted_eq : ∀ {S L : List Ent}, S.Perm L → Sorted S → Sorted L → S = L
  | [], L, hp, _, _ => by rw [List.nil_perm.1 hp]
  | x :: r, L, hp, hS, hL => by
    cases L with
    | nil => exact absurd hp.length_eq (by simp)
    | cons y t =>
      have h1 := (List.pairwise_cons.1 hS)
      have h2 := (List.pairwise_cons.1 hL)
      have e : x = y := by
        by_cases e : x = y
        · exact e
        · have a1 : x ∈ t := by
            rcases List.mem_cons.1 (hp.mem_iff.1 (List.mem_cons_self)) with h | h
            · exact absurd h e
            · exact h
          have a2 : y ∈ r := by
            rcases List.mem_cons.1 (hp.mem_iff.2 (List.mem_cons_self)) with h | h
            · exact absurd h.symm e
            · exact h
          have b1 := h1.1 y a2
          have b2 := h2.1 x a1
          have := ah_weak.asym x y b1
          rw [b2] at this
          cases this
      subst e
      rw [sorted_eq (List.Perm.cons_inv hp) h1.2 h2.2]
theorem sorted_of {S : List Ent} (h : ∀ i j, i < j → j < S.length → ah (S.getD i (0, 0)) (S.getD j (0, 0)) = true) : Sorted S := by
  refine List.pairwise_iff_getElem.2 fun i j hi hj hij => ?_
  have := h i j hij hj
  rwa [List.getD_eq_getElem?_getD, List.getD_eq_getElem?_getD, List.getElem?_eq_getElem hi, List.getElem?_eq_getElem hj] at this
theorem diff_nodup {L : List Ent} (h : Diff L) : (L.map (·.1)).Nodup := by
  rw [List.Nodup, List.pairwise_map]
  exact h

theorem Pr.keptN {B : Nat} {W W' : World} {hb mb : Nat} {ro : Option Nat} {rf : Nat} {L : List Ent} {S : Nat → Prop} (h : Pr B W hb mb ro rf L) (k : Kept S W W') (hs : ∀ b o, S b → W.heap[b]? = some o → ∃ t, tyOf o = some t ∧ t ≠ 33 ∧ t ≠ 36 ∧ t ≠ 81 ∧ t ≠ 87) : Pr B W' hb mb ro rf L := by
  refine ⟨h.heap.kept k (fun b hm s => ?_), h.ref.kept k (fun b o s ho => ?_), h.sorted, h.diff, h.ok, Nat.le_trans h.base k.size, h.rb⟩
  · obtain ⟨o, ho, ht⟩ := h.heap.kinds b hm
    obtain ⟨t, e, _, _, t3, t4⟩ := hs b o s ho
    rw [e] at ht
    rcases ht with x | x | x
    · cases x; exact t3 rfl
    · cases x
    · cases x; exact t4 rfl
  · obtain ⟨t, e, t1, t2, _⟩ := hs b o s ho
    rw [e]
    exact ⟨fun x => t1 (by cases x; rfl), fun x => t2 (by cases x; rfl)⟩

set_option maxHeartbeats 1000000 in
set_option maxRecDepth 100000 in
theorem same_any (B : Nat) (W : World) (hb mb : Nat) (ro : Option Nat) (rf : Nat) (L : List Ent) (h : Pr B W hb mb ro rf L) (hl : L.length ≤ 1099511627776) :
    Calls Try.prog 16 #[.pointer (some ⟨hb, 0, none⟩), .pointer (some ⟨rf, 0, none⟩)] W fun e w' => e = .returned (.bool true) ∧ Kept (fun _ => False) W w' := by
  have mixed : Try.prog.follows .mixedOrders = true := by kernel_rfl
  have hnf : ∀ (f : Fn) (b c : Array Value) (w : World), (binOp .eql 42 (.func f b c) Value.nilFunc).run Try.prog w = .ok (.bool false) w := fun _ _ _ _ => rfl
  obtain ⟨W3, hW3⟩ : ∃ W3, ((W.alloc (.cells #[.pointer (some ⟨rf, 0, none⟩)] 30)).alloc (.cells #[.bool false] 4)).alloc (.cells #[.int .i64 0] 3) = W3 := ⟨_, rfl⟩
  have g3 : Grew W W3 := by rw [← hW3]; exact (((Grew.refl W).alloc _).alloc _).alloc _
  have z3 : W3.heap.size = W.heap.size + 3 := by rw [← hW3]; simp
  have b0 : W3.heap[W.heap.size]? = some (.cells #[.pointer (some ⟨rf, 0, none⟩)] 30 (0, 0)) := by
    rw [← hW3, Below.heap_alloc _ _ _ (by simp; omega), Below.heap_alloc _ _ _ (by simp)]; exact heap_alloc_new _ _
  have b1 : W3.heap[W.heap.size + 1]? = some (.cells #[.bool false] 4 (0, 0)) := by
    rw [← hW3, Below.heap_alloc _ _ _ (by simp)]
    have := heap_alloc_new (W.alloc (.cells #[.pointer (some ⟨rf, 0, none⟩)] 30)) (.cells #[.bool false] 4)
    simpa using this
  have b2 : NumAt W3 (W.heap.size + 1 + 1) 0 := by
    unfold NumAt
    rw [← hW3]
    have := heap_alloc_new ((W.alloc (.cells #[.pointer (some ⟨rf, 0, none⟩)] 30)).alloc (.cells #[.bool false] 4)) (.cells #[.int .i64 0] 3)
    simpa using this
  have C := Lib.hid (hs_all (h.heap.grew g3) (diff_nodup h.diff))
  have HW := Lib.hid hW3
  have HB := Lib.hid (And.intro b0 (And.intro b1 b2))
  have Z3 := Lib.hid z3
  have G3 := Lib.hid g3
  clear hW3 b0 b1 b2 z3 g3
  refine calls_marks Try.func16 rfl ?_
  simp only [Try.ntmps16, List.size_toArray, List.length_cons, List.length_nil, Nat.reduceAdd, Nat.reduceSub, Array.replicate_succ, Array.replicate_zero, List.push_toArray, List.append_toArray, List.nil_append, List.cons_append]
  go_wp2_with fail
  rw [HW.out]
  refine C.out.mono ?_
  rintro e W4 ⟨S, rfl, hp, hsr, hseq, hk⟩
  obtain rfl : S = L := sorted_eq hp (sorted_of hsr) h.sorted
  obtain ⟨rb, r1, r2, r3, hnth⟩ := all_nth _ _ S hl W4 hseq
  have K4 := Lib.hid hk
  have zz : W.heap.size + 1 + 1 < W4.heap.size := by have := K4.out.size; have := Z3.out; omega
  have hc3 : W3.heap.size = W.heap.size + 3 := Z3.out
  obtain ⟨cb, hcb⟩ : ∃ cb, W3.heap.size = cb := ⟨_, rfl⟩
  have HCB := Lib.hid hcb
  rw [hcb] at r3 hnth ⊢
  have facts : ∀ k Wk, CntI W4 (W.heap.size + 1 + 1) k Wk → (Wk.cell? ⟨W.heap.size + 1 + 1, 0, none⟩ = some (.int .i64 k) ∧ Wk.frozen? ⟨W.heap.size + 1 + 1, 0, none⟩ = false) ∧ Wk.cell? ⟨W.heap.size, 0, none⟩ = some (.pointer (some ⟨rf, 0, none⟩)) ∧
      Wk.heap[W.heap.size + 1]? = some (.cells #[.bool false] 4 (0, 0)) ∧ Pr B Wk hb mb ro rf S := fun k Wk hi => by
    have k34 : Kept (fun i => i = W.heap.size + 1 + 1) W3 Wk := (K4.out.mono (fun _ _ x => x.elim)).trans hi.1
    have e0 := (k34.block W.heap.size (by omega) (by omega)).trans HB.out.1
    have e1 := (k34.block (W.heap.size + 1) (by omega) (by omega)).trans HB.out.2.1
    refine ⟨hi.2.cell, by simp [World.cell?, e0], e1, (h.grew G3.out).keptN k34 (fun b o hb' ho => ?_)⟩
    subst hb'
    have := HB.out.2.2
    unfold NumAt at this
    rw [this] at ho
    cases ho
    exact ⟨3, rfl, by decide, by decide, by decide, by decide⟩
  have FF := Lib.hid facts
  have N4 : NumAt W4 (W.heap.size + 1 + 1) 0 := (K4.out.block _ (by omega) (fun x => x)).trans HB.out.2.2
  have hoI := cntI_own zz
  clear hp hsr hseq hk C facts hc3 hcb
  go_wp2_with fail
  refine wp_rangeNth (gf := 53) (lb := #[.pointer (some ⟨cb, 0, none⟩)]) (encs := enN S) (Kp := Pair2 cb rb) (N := S.length) (w0 := W4) ?hg ?eg hnth ?kt ?kb (Below.refl _ _) ?ps (CntI W4 (W.heap.size + 1 + 1)) (fun _ _ _ => False) hoI ?hix ⟨Kept.refl _ _, N4⟩ ?round ?done ?stop
  case hg => rfl
  case eg => exact enters_of Try.func53 (by kernel_rfl) rfl
  case kt => exact fun h k => h.trans k
  case kb => exact fun W l o o' h1 h2 h3 => Pair2.put r3 r2 W l o o' h1 h2 h3
  case ps => exact fun _ => rfl
  case hix => exact fun c s A B row hs _ _ => hs
  case stop => intro D c k W5 _ _ hx; exact hx.elim
  case round =>
    intro l k Wk hks hi
    unfold enN
    gi_wp2
    refine ⟨KeepsFrom.refl _ _, Pair2.refl _ _ _, fun Wb hbz => ?_⟩
    have hi2 := hbz.own hoI hi
    obtain ⟨⟨c1, c2⟩, c3, _, hpr⟩ := FF.out k Wb hi2
    obtain ⟨g, cap, hrf, hrow, hcap⟩ := hpr.ref.row (by omega)
    have c4 : Wb.cell? ⟨rf, 0, none⟩ = some (.slice (some ⟨g, 0, none⟩) S.length cap) := by simp [World.cell?, hrf]
    have c5 := hrow.2 _ _ (flatR_get S k hks).1
    have c6 := hrow.2 _ _ (flatR_get S k hks).2
    have HI2 := Lib.hid hi2
    have HKB : Hid (Pair2 cb rb W4 Wb) := ⟨hi2.1.block cb r3 (by have := Z3.out; have := HCB.out; omega), hi2.1.block rb r2 (by have := Z3.out; have := HCB.out; omega)⟩
    have hkz : (k : Int) < (S.length : Int) := by omega
    have hkd : decide ((k : Int) ≥ (S.length : Int)) = false := decide_eq_false (by omega)
    have hkd2 : decide (S.length ≤ k) = false := decide_eq_false (by omega)
    have q4 : IntKind.i64.wrap ((k : Int) + 1) = (k : Int) + 1 := by rw [IntKind.wrap_i64]; omega
    clear hi hi2 hpr hrf hrow FF hoI N4 hnth
    generalize rky S k = ky at *
    generalize rid S k = ki at *
    generalize S.length = n at *
    gi_wp2
    refine region_quiet_round_lit l (by kernel_rfl) mixed (by kernel_rfl) ?_
    repeat (gi_big_quiet_step (fail))
    refine wpQuietIn_nil ?_
    intro _ hw'
    obtain ⟨nq, hw''⟩ := hw'
    subst hw''
    gi_wp2
    have HK : Kept (fun i => i = W.heap.size + 1 + 1) Wb ((Wb.drewN nq).setCell ⟨W.heap.size + 1 + 1, 0, none⟩ (.int .i64 ((k : Int) + 1))) := (((grewD Wb nq).kept (fun i => i = W.heap.size + 1 + 1)).setCell (p := ⟨W.heap.size + 1 + 1, 0, none⟩) (.inl rfl) _)
    have z3 := Z3.out
    have zc := HCB.out
    refine ⟨HK.from _ (fun i e => by rw [e]; exact zz), ⟨HK.block cb (lt_is HKB.out.1 r3) (by omega), HK.block rb (lt_is HKB.out.2 r2) (by omega)⟩, ?_⟩
    exact (HI2.out.grew zz (grewD Wb nq)).next
  case done =>
    intro D W5 hD hi hdef
    obtain ⟨⟨c1, c2⟩, c3, c7, hpr⟩ := FF.out _ W5 hi
    obtain ⟨ra, rcap, hrf, _⟩ := hpr.ref
    have c4 : W5.cell? ⟨rf, 0, none⟩ = some (.slice ra S.length rcap) := by simp [World.cell?, hrf]
    have c8 : W5.cell? ⟨W.heap.size + 1, 0, none⟩ = some (.bool false) := by simp [World.cell?, c7]
    have c9 : W5.frozen? ⟨W.heap.size + 1, 0, none⟩ = false := by simp [World.frozen?, c7]
    have C5 : ∀ m, Hid (Calls Try.prog 24 #[.pointer (some ⟨hb, 0, none⟩)] (W5.drewN m) fun e w' => e = .returned (.int .i64 S.length) ∧ W5.drewN m = w') := fun m => hs_len (hpr.heap.grew (grewD W5 m))
    have HI5 := Lib.hid hi
    clear hi hpr hrf FF hoI N4 hnth c7
    generalize S.length = n at *
    go_wp2_with fail
    refine plain_last 13 _ (Drawing W5) rfl rfl (by kernel_rfl) mixed (drawing_drew W5) ?_
    simp only [List.take_succ_cons, List.take_zero]
    repeat (go_big_quiet_step (first | (go_at_call 24; (refine (C5 _).out.mono ?_); rintro e w1 ⟨rfl, rfl⟩; exact ⟨rfl, _, rfl⟩)))
    refine wpQuiet_nil ?_
    rintro _ ⟨nq, rfl⟩
    gi_wp2
    go_wp2_with fail
    have z3 := Z3.out
    have k5 : Kept (fun _ => False) W W5 := ((G3.out.kept _).trans K4.out).andThen HI5.out.1 (fun i e => .inr (by omega))
    have k6 : Kept (fun _ => False) W ((W5.drewN nq).setCell ⟨W.heap.size + 1, 0, none⟩ (.bool true)) := (k5.trans ((grewD W5 nq).kept _)).setCell (p := ⟨W.heap.size + 1, 0, none⟩) (.inr (by show W.heap.size ≤ W.heap.size + 1; omega)) _
    have hD6 : ((W5.drewN nq).setCell ⟨W.heap.size + 1, 0, none⟩ (.bool true)).heap[D]? = some (.deferred (some [])) := by
      rw [Below.heap_setCell _ _ _ _ (by show D ≠ W.heap.size + 1; omega)]; exact hdef
    have hc6 : ((W5.drewN nq).setCell ⟨W.heap.size + 1, 0, none⟩ (.bool true)).cell? ⟨W.heap.size + 1, 0, none⟩ = some (.bool true) := World.cell?_setCell_same _ _ _ (by rw [World.cell?_drewN]; exact c8)
    generalize (W5.drewN nq).setCell ⟨W.heap.size + 1, 0, none⟩ (.bool true) = W6 at *
    refine leave_one hD6 ⟨.bool true, ?_, rfl, k6.grown (grownBy_putObj' W6 D _) (fun k e => by cases e; exact .inr (by omega))⟩
    have hc7 : (W6.putObj D (.deferred none)).cell? ⟨W.heap.size + 1, 0, none⟩ = some (.bool true) := by
      rw [World.cell?_of_block (World.putObj_heap_other (by show W.heap.size + 1 ≠ D; omega))]; exact hc6
    simp [results, Try.f16, go_sem, hc7]
end Go.Proofs.Ytdmdebelcklfhaa
