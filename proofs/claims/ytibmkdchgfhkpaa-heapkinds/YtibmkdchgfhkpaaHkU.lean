/-
  HeapKinds: the walk.
-/
import Derived.Test.YtibmkdchgfhkpaaHkK
import Derived.Test.YtibmkdchgfhkpaaHpU
namespace Go.Proofs.Ytibmkdchgfhkpaa.K
open Go.RowKit Go.Sort Go.Shelf Go.Maps
set_option linter.unusedVariables false
set_option linter.unusedSimpArgs false

/-- The entries of the first i numbers. -/
def entsTo (ks : List Ky) : Nat → List Ent
  | 0 => []
  | i + 1 => ((i : Int), ks.getD i (0, 0)) :: entsTo ks i
theorem len_ents (ks : List Ky) : ∀ i, (entsTo ks i).length = i
  | 0 => rfl
  | i + 1 => by simp [entsTo, len_ents ks i]
theorem mem_ents {ks : List Ky} {x : Ent} : ∀ {i : Nat}, x ∈ entsTo ks i ↔ ∃ j : Nat, j < i ∧ x = ((j : Int), ks.getD j (0, 0))
  | 0 => by simp [entsTo]
  | i + 1 => by
    rw [entsTo, List.mem_cons, mem_ents]
    constructor
    · rintro (rfl | ⟨j, hj, rfl⟩)
      · exact ⟨i, by omega, rfl⟩
      · exact ⟨j, by omega, rfl⟩
    · rintro ⟨j, hj, rfl⟩
      by_cases e : j = i
      · subst e; exact .inl rfl
      · exact .inr ⟨j, by omega, rfl⟩
theorem ents_pairwise (ks : List Ky) : ∀ i, (entsTo ks i).Pairwise (fun x y => x.1 ≠ y.1)
  | 0 => List.Pairwise.nil
  | i + 1 => by
    rw [entsTo, List.pairwise_cons]
    refine ⟨fun x hx => ?_, ents_pairwise ks i⟩
    obtain ⟨j, hj, rfl⟩ := mem_ents.1 hx
    simp; omega

/-- In order: each is ahead of all behind it. -/
def Sorted (S : List Ent) : Prop := S.Pairwise (fun x y => ah x y = true)
theorem exists_sorted (C : List Ent) (hC : C.Pairwise (fun x y => x.1 ≠ y.1)) : ∃ S, S.Perm C ∧ Sorted S := by
  refine ⟨C.mergeSort (fun x y => !ah y x), List.mergeSort_perm _ _, ?_⟩
  have h1 := List.pairwise_mergeSort (le := fun x y => !ah y x) (fun a b c h1 h2 => by simp at *; exact ah_weak.ntr _ _ _ h2 h1) (fun a b => by
    simp
    cases h : ah b a
    · exact .inl rfl
    · exact .inr (ah_weak.asym _ _ h)) C
  have h2 : (C.mergeSort (fun x y => !ah y x)).Pairwise (fun x y => x.1 ≠ y.1) := ((List.mergeSort_perm C (fun x y => !ah y x)).pairwise_iff (fun {a b} (h : a.1 ≠ b.1) => h.symm)).2 hC
  unfold Sorted
  have h3 := h1.and h2
  refine h3.imp ?_
  rintro a b ⟨h, hne⟩
  rcases ah_total hne with h' | h'
  · exact h'
  · rw [h'] at h; cases h
theorem drop_getD {S : List Ent} {i : Nat} (hi : i < S.length) : S.drop i = S.getD i (0, 0, 0) :: S.drop (i + 1) := by
  rw [List.drop_eq_getElem_cons hi, List.getD_eq_getElem?_getD, List.getElem?_eq_getElem hi]; rfl
theorem Sorted.least {S : List Ent} (h : Sorted S) {i : Nat} (hi : i < S.length) : S.getD i (0, 0, 0) ∈ S.drop i ∧ (∀ y ∈ S.drop i, y ≠ S.getD i (0, 0, 0) → ah (S.getD i (0, 0, 0)) y = true) ∧ (S.drop i).erase (S.getD i (0, 0, 0)) = S.drop (i + 1) := by
  have hd := drop_getD hi
  have hp : Sorted (S.drop i) := List.Pairwise.sublist (List.drop_sublist i S) h
  rw [hd] at hp ⊢
  have hq := (List.pairwise_cons.1 hp).1
  refine ⟨by simp, fun y hy hne => ?_, by simp⟩
  rcases List.mem_cons.1 hy with e | e
  · exact absurd e hne
  · exact hq y e
theorem Sorted.next {S : List Ent} (h : Sorted S) {j : Nat} (hj : j + 1 < S.length) : ah (S.getD j (0, 0, 0)) (S.getD (j + 1) (0, 0, 0)) = true := by
  have h1 : Sorted (S.drop j) := List.Pairwise.sublist (List.drop_sublist j S) h
  rw [drop_getD (show j < S.length by omega)] at h1
  refine (List.pairwise_cons.1 h1).1 _ ?_
  rw [drop_getD hj]
  simp

/-- The first loop: i numbers are put. -/
def K1 (w : World) (hb mb : Nat) (ks : List Ky) (i : Nat) (W : World) : Prop := ∃ ro, Hs w.heap.size W hb mb ro (entsTo ks i) ∧ Below w.heap.size w W

theorem K1.put {w W : World} {hb mb : Nat} {ks : List Ky} {i : Nat} (h : K1 w hb mb ks i W) (hz : ∀ z ∈ ks, Is64 z.1 ∧ Is64 z.2) (hi : i < 60) :
    Calls Try.prog 26 #[.pointer (some ⟨hb, 0, none⟩), .int .i64 i, kv (ks.getD i (0, 0))] W fun e w' => e = .returned (.int .i64 0) ∧ K1 w hb mb ks (i + 1) w' := by
  obtain ⟨ro, h1, h4⟩ := h
  have h64 : Is64 (ks.getD i (0, 0)).1 ∧ Is64 (ks.getD i (0, 0)).2 := by
    rw [List.getD_eq_getElem?_getD]
    by_cases hl : i < ks.length
    · rw [List.getElem?_eq_getElem hl]; exact hz _ (List.getElem_mem hl)
    · rw [List.getElem?_eq_none (by omega)]; exact ⟨⟨by decide, by decide⟩, by decide, by decide⟩
  refine (hs_put h1 h4.size i (ks.getD i (0, 0)) ⟨by omega, by constructor <;> omega⟩ h64 (fun x hx e => ?_) (by rw [len_ents]; omega)).mono ?_
  · obtain ⟨j, hj, rfl⟩ := mem_ents.1 hx
    simp at e; omega
  · rintro e w' ⟨rfl, ro', l⟩
    exact ⟨rfl, ro', l.heap, h4.trans (l.below h1 h4.size)⟩

/-- The second loop: j numbers were taken, and (t, d) is the last key. -/
def K2 (w : World) (hb mb lb : Nat) (S : List Ent) (j : Nat) (t d : Int) (W : World) : Prop :=
  ∃ ro, Hs w.heap.size W hb mb ro (S.drop j) ∧ Below w.heap.size w W ∧ KeyAt W lb t d ∧ ¬ Mine hb mb ro lb ∧ w.heap.size ≤ lb

theorem K2.take {w W : World} {hb mb lb : Nat} {S : List Ent} {j : Nat} {t d : Int} (h : K2 w hb mb lb S j t d W) (hS : Sorted S) (hj : j < S.length) :
    Calls Try.prog 27 #[.pointer (some ⟨hb, 0, none⟩)] W fun e w' => e = .returned (.tuple #[.int .i64 (rid S j), kv (rky S j), .int .i64 0]) ∧ K2 w hb mb lb S (j + 1) t d w' := by
  obtain ⟨ro, h1, h4, h6, m, h8⟩ := h
  obtain ⟨l1, l2, l3⟩ := hS.least hj
  refine (hs_take h1 _ l1 l2).mono ?_
  rintro e w' ⟨rfl, l⟩
  rw [l3] at l
  exact ⟨rfl, ro, l.heap, h4.trans (l.below h1 h4.size), (l.kept.block lb h6.lt m).trans h6, m, h8⟩
theorem K2.grew {w W W' : World} {hb mb lb : Nat} {S : List Ent} {j : Nat} {t d : Int} (h : K2 w hb mb lb S j t d W) (g : Grew W W') : K2 w hb mb lb S j t d W' := by
  obtain ⟨ro, h1, h4, h6, h7⟩ := h
  exact ⟨ro, h1.grew g, h4.trans (g.below.mono h4.size), (g.block h6.lt).trans h6, h7⟩
theorem K2.mark {w W : World} {hb mb lb : Nat} {S : List Ent} {j : Nat} {t d : Int} (h : K2 w hb mb lb S j t d W) (t' d' : Int) :
    K2 w hb mb lb S j t' d' ((W.setCell ⟨lb, 0, none⟩ (.int .i64 t')).setCell ⟨lb, 1, none⟩ (.int .i64 d')) := by
  obtain ⟨ro, h1, h4, h6, m, h8⟩ := h
  have k : Kept (fun b => b = lb) W ((W.setCell ⟨lb, 0, none⟩ (.int .i64 t')).setCell ⟨lb, 1, none⟩ (.int .i64 d')) := ((Kept.refl (fun b => b = lb) W).setCell (p := ⟨lb, 0, none⟩) (.inl rfl) _).setCell (p := ⟨lb, 1, none⟩) (.inl rfl) _
  exact ⟨ro, h1.kept k (fun b hb' hs => m (hs ▸ hb')), h4.trans (k.below h4.size (fun b e => e ▸ h8)), KeyAt.set h6 t' d', m, h8⟩

theorem keq (a b : Int) (w : World) : (Op.equalIn 10000 36 (.agg #[.int .i64 a, .int .i64 b]) (.agg #[.int .i64 a, .int .i64 b])).run Try.prog w = .ok true w := by
  have u3 := Try.underlying3
  have a3 := Try.isAgg3
  have z3 := Try.sizeOf3
  have hS : Try.prog.underlying 36 = some (.struct (Try.prog.fieldsOf 36)) := by kernel_rfl
  have hp : Try.prog.stoodInHeld 36 = false := by kernel_rfl
  rw [show (10000 : Nat) = 9999 + 1 from rfl, run_equalIn_struct w 9999 36 _ _ hS hp]
  simp only [Program.fieldsOf, Try.underlying36]
  go_simp

set_option maxRecDepth 20000 in
theorem kinds_long (a : Option Addr) (n cap : Nat) (hn : n ≤ 9223372036854775807) (h60 : 60 < n) (w : World) :
    Calls Try.prog 7 #[.slice a n cap] w fun e w' => e = .returned (.bool true) ∧ Below w.heap.size w w' := by
  have CN := Lib.hid (hs_new w.heap.size w (Nat.le_refl _))
  have CW : ∀ W, Hid (Calls Try.prog 12 #[] W fun e w' => e = .returned (.bool true) ∧ Below W.heap.size W w') := fun W => awake3 W
  have h2 : decide ((n : Int) > 60) = true := decide_eq_true (by omega)
  go_enter Try.func7, Try.ntmps7
  go_wp2_with (first | (go_at_call 25; refine CN.out.mono ?_; rintro e w1 ⟨hb, mb, rfl, _, g1, _, _⟩) | (go_at_call 12; refine (CW _).out.mono ?_; rintro e w3 ⟨rfl, b3⟩))
  go_ret
  exact ⟨rfl, g1.below.trans (b3.mono g1.size)⟩

set_option maxHeartbeats 8000000 in
set_option maxRecDepth 100000 in
theorem kinds_core (a : Option Addr) (cap : Nat) (ks : List Ky) (n : Nat) (hn : ks.length = n) (h60 : n ≤ 60) (w : World) (hz : ∀ z ∈ ks, Is64 z.1 ∧ Is64 z.2)
    (hc : n = 0 ∨ ∃ g o, a = some ⟨g, o, none⟩ ∧ g < w.heap.size ∧ ∀ i, i < n → w.cell? ⟨g, o + i * 2, none⟩ = some (.int .i64 (ks.getD i (0, 0)).1) ∧ w.cell? ⟨g, o + i * 2 + 1, none⟩ = some (.int .i64 (ks.getD i (0, 0)).2)) :
    Calls Try.prog 7 #[.slice a n cap] w fun e w' => e = .returned (.bool true) ∧ Below w.heap.size w w' := by
  have CN := Lib.hid (hs_new w.heap.size w (Nat.le_refl _))
  have CW : ∀ W, Hid (Calls Try.prog 12 #[] W fun e w' => e = .returned (.bool true) ∧ Below W.heap.size W w') := fun W => awake3 W
  have hn2 : decide ((n : Int) > 60) = false := decide_eq_false (by omega)
  have HZ := Lib.hid hz
  have HC := Lib.hid hc
  clear hz hc
  go_enter Try.func7, Try.ntmps7
  go_wp2_with fail
  refine CN.out.mono ?_
  rintro e wa ⟨hb, mb, rfl, hA, gA, _, _⟩
  have HT : Hid (K1 w hb mb ks 0 wa) := ⟨none, hA, gA.below⟩
  clear hA gA
  go_wp2_with fail
  go_loopg [5] n (fun gk s wr => ∃ i : Nat, s = .int .i64 i ∧ i ≤ n ∧ n - i ≤ gk ∧ Hid (K1 w hb mb ks i wr))
  case atStart => exact ⟨0, rfl, Nat.zero_le _, by omega, HT.out⟩
  case round =>
    rename World => W1
    obtain ⟨i, rfl, hin, hgk, HR⟩ := hrel
    by_cases hi : i < n
    · rcases HC.out with h0 | ⟨g, o, rfl, hg, hcc⟩
      · omega
      have hi' : decide ((i : Int) < (n : Int)) = true := decide_eq_true (by omega)
      have hiz : (i : Int) < (n : Int) := by omega
      have q4 : IntKind.i64.wrap ((i : Int) + 1) = (i : Int) + 1 := by rw [IntKind.wrap_i64]; omega
      have hb1 : Below w.heap.size w W1 := by obtain ⟨_, _, h⟩ := HR.out; exact h
      have r1 := (hb1.cell (p := ⟨g, o + i * 2, none⟩) hg).trans (hcc i hi).1
      have r2 := (hb1.cell (p := ⟨g, o + i * 2 + 1, none⟩) hg).trans (hcc i hi).2
      have CA : Hid (Calls Try.prog 26 #[.pointer (some ⟨hb, 0, none⟩), .int .i64 i, .agg #[.int .i64 (ks.getD i (0, 0)).1, .int .i64 (ks.getD i (0, 0)).2]] W1 fun e w' => e = .returned (.int .i64 0) ∧ K1 w hb mb ks (i + 1) w') := HR.out.put HZ.out (by omega)
      clear hb1 hcc
      generalize (ks.getD i (0, 0)).1 = v1 at *
      generalize (ks.getD i (0, 0)).2 = v2 at *
      go_wp2_with (go_at_call 26; (with_reducible refine CA.out.mono ?_); rintro e W2 ⟨rfl, h2⟩; have H2 := Lib.hid h2; clear h2)
      go_roundg (n - (i + 1))
      case measure => omega
      case rel => exact ⟨i + 1, by go_num, by omega, Nat.le_refl _, (show Hid _ from H2.out)⟩
    · obtain rfl : i = n := by omega
      have hi' : decide ((i : Int) < (i : Int)) = false := decide_eq_false (by omega)
      clear HT
      obtain ⟨S, hSp, hSs⟩ := exists_sorted (entsTo ks i) (ents_pairwise ks i)
      have hSl : S.length = i := by rw [hSp.length_eq, len_ents]
      have hSm : ∀ j, j < i → ∃ q : Nat, q < i ∧ S.getD j (0, 0, 0) = ((q : Int), ks.getD q (0, 0)) := fun j hj => mem_ents.1 (hSp.mem_iff.1 (mem_getD (by rw [hSl]; exact hj)))
      have HS : Hid (S.length = i ∧ Sorted S ∧ S.Perm (entsTo ks i)) := ⟨hSl, hSs, hSp⟩
      have HM := Lib.hid hSm
      clear hSp hSs hSl hSm
      have HT2 : Hid (K2 w hb mb W1.heap.size S 0 0 0 (W1.alloc (.cells #[.int .i64 0, .int .i64 0] 36))) := by
        obtain ⟨ro, h1, h4⟩ := HR.out
        have g1 : Grew W1 (W1.alloc (.cells #[.int .i64 0, .int .i64 0] 36)) := (Grew.refl _).alloc _
        refine ⟨ro, (h1.grew g1).perm HS.out.2.2.symm, h4.trans (g1.below.mono h4.size), heap_alloc_new _ _, fun x => ?_, h4.size⟩
        have := h1.lt _ x; omega
      go_wp2_with fail
      generalize W1.heap.size = lb at *
      generalize W1.alloc (.cells #[.int .i64 0, .int .i64 0] 36) = W2 at *
      clear HR
      go_loopg [6, 8] i (fun gk s6 s wr => ∃ (j : Nat) (li t d : Int), s6 = .int .i64 li ∧ s = .int .i64 j ∧ j ≤ i ∧ i - j ≤ gk ∧ Hid (K2 w hb mb lb S j t d wr ∧ (0 < j → (li, t, d) = S.getD (j - 1) (0, 0, 0))))
      case atStart => exact ⟨0, -1, 0, 0, rfl, rfl, Nat.zero_le _, by omega, HT2.out, fun h => absurd h (Nat.lt_irrefl _)⟩
      case round =>
        rename World => W3
        obtain ⟨j, li, t, d, rfl, rfl, hji, hgk2, HR⟩ := hrel
        by_cases hj : j < i
        · rcases HC.out with h0 | ⟨g, o, rfl, hg, hcc⟩
          · omega
          have hj' : decide ((j : Int) < (i : Int)) = true := decide_eq_true (by omega)
          have q4 : IntKind.i64.wrap ((j : Int) + 1) = (j : Int) + 1 := by rw [IntKind.wrap_i64]; omega
          obtain ⟨q, hqi, hq⟩ := HM.out j hj
          have hjl : j < S.length := by rw [HS.out.1]; exact hj
          have CA := HR.out.1.take HS.out.2.1 hjl
          have e1 : rid S j = (q : Int) := by unfold rid; rw [hq]
          have e2 : rky S j = ks.getD q (0, 0) := by unfold rky; rw [hq]
          rw [e1, e2] at CA
          have CA : Hid (Calls Try.prog 27 #[.pointer (some ⟨hb, 0, none⟩)] W3 fun e w' => e = .returned (.tuple #[.int .i64 q, .agg #[.int .i64 (ks.getD q (0, 0)).1, .int .i64 (ks.getD q (0, 0)).2], .int .i64 0]) ∧ K2 w hb mb lb S (j + 1) t d w') := CA
          have facts : Hid (∀ W, K2 w hb mb lb S (j + 1) t d W → W.cell? ⟨g, o + q * 2, none⟩ = some (.int .i64 (ks.getD q (0, 0)).1) ∧ W.cell? ⟨g, o + q * 2 + 1, none⟩ = some (.int .i64 (ks.getD q (0, 0)).2) ∧ W.cell? ⟨lb, 0, none⟩ = some (.int .i64 t) ∧ W.cell? ⟨lb, 1, none⟩ = some (.int .i64 d) ∧ W.frozen? ⟨lb, 0, none⟩ = false ∧ W.frozen? ⟨lb, 1, none⟩ = false ∧ lb < W.heap.size) := fun W h => by
            obtain ⟨_, _, h4, h6, _⟩ := h
            exact ⟨(h4.cell (p := ⟨g, o + q * 2, none⟩) hg).trans (hcc q hqi).1, (h4.cell (p := ⟨g, o + q * 2 + 1, none⟩) hg).trans (hcc q hqi).2, h6.c0, h6.c1, h6.thaw 0, h6.thaw 1, h6.lt⟩
          have hqz : (q : Int) < (i : Int) := by omega
          have hq0 : decide ((q : Int) < 0) = false := decide_eq_false (by omega)
          have hq1 : decide ((q : Int) ≥ (i : Int)) = false := decide_eq_false (by omega)
          have heq := keq (ks.getD q (0, 0)).1 (ks.getD q (0, 0)).2
          have CP : ∀ W, Hid (Calls Try.prog 19 #[.agg #[.int .i64 (ks.getD q (0, 0)).1, .int .i64 (ks.getD q (0, 0)).2], .agg #[.int .i64 t, .int .i64 d]] W fun e w' => e = .returned (.bool (ltK (ks.getD q (0, 0)) (t, d))) ∧ Grew W w') := fun W => before_any _ _ t d W
          have CQ : ∀ W, Hid (Calls Try.prog 19 #[.agg #[.int .i64 t, .int .i64 d], .agg #[.int .i64 (ks.getD q (0, 0)).1, .int .i64 (ks.getD q (0, 0)).2]] W fun e w' => e = .returned (.bool (ltK (t, d) (ks.getD q (0, 0)))) ∧ Grew W w') := fun W => before_any t d _ _ W
          have HQ := Lib.hid hq
          have hah : 0 < j → ltK (ks.getD q (0, 0)) (t, d) = false ∧ (ltK (t, d) (ks.getD q (0, 0)) = true ∨ li < q) := fun hj0 => by
            have h1 := HR.out.2 hj0
            have h2 := HS.out.2.1.next (j := j - 1) (by omega)
            rw [show j - 1 + 1 = j by omega, ← h1, HQ.out, ah_eq] at h2
            cases h3 : ltK (t, d) (ks.getD q (0, 0))
            · simp only [h3, Bool.false_or, Bool.and_eq_true, Bool.not_eq_true', decide_eq_true_eq] at h2
              exact ⟨h2.1, .inr h2.2⟩
            · exact ⟨ltK_weak.asym _ _ h3, .inl rfl⟩
          clear e1 e2 hq hcc
          generalize ltK (ks.getD q (0, 0)) (t, d) = b1 at *
          generalize ltK (t, d) (ks.getD q (0, 0)) = b2 at *
          generalize hv1 : (ks.getD q (0, 0)).1 = v1 at *
          generalize hv2 : (ks.getD q (0, 0)).2 = v2 at *
          have HV : Hid (ks.getD q (0, 0) = (v1, v2)) := by rw [← hv1, ← hv2]; rfl
          clear hv1 hv2
          go_wp2_with (go_at_call 27; (with_reducible refine CA.out.mono ?_); rintro e W4 ⟨rfl, h4⟩; have H4 := Lib.hid h4; obtain ⟨f1, f2, f3, f4, f5, f6, f7⟩ := facts.out W4 h4; clear h4)
          obtain ⟨W5, hW5⟩ : ∃ W5, W4.alloc (.cells #[.int .i64 v1, .int .i64 v2] 36) = W5 := ⟨_, rfl⟩
          have g5 : Grew W4 W5 := by rw [← hW5]; exact (Grew.refl _).alloc _
          have hz5 : W5.heap.size = W4.heap.size + 1 := by rw [← hW5]; simp
          have H5 := Lib.hid (H4.out.grew g5)
          obtain ⟨k1, k2, k3, k4, k5, k6, k7⟩ := facts.out W5 H5.out
          have box : Hid (∀ W, Grew W5 W → W.cell? ⟨W4.heap.size, 0, none⟩ = some (.int .i64 v1) ∧ W.cell? ⟨W4.heap.size, 1, none⟩ = some (.int .i64 v2)) := fun W k => by
            have e : W4.heap.size < W5.heap.size := by omega
            exact ⟨by rw [k.cell (by exact e), ← hW5]; simp [go_sem], by rw [k.cell (by exact e), ← hW5]; simp [go_sem]⟩
          obtain ⟨k8, k9⟩ := box.out W5 (Grew.refl _)
          have hgd : ∀ op a b (w : World), (eqGuard op 36 a b (.agg #[.int .i64 v1, .int .i64 v2]) (.agg #[.int .i64 v1, .int .i64 v2])).run Try.prog w = .ok () w := fun op a b w => run_eqGuard_agg w op 36 a b _ _ (by kernel_rfl)
          rw [hW5]
          clear f1 f2 f3 f4 f5 f6 f7 g5 hW5
          go_quiet (fail)
          obtain ⟨W6, hW6⟩ : ∃ W6, W5.drewN nq = W6 := ⟨_, rfl⟩
          have g6 : Grew W5 W6 := by rw [← hW6]; exact ⟨nq, #[], by rw [grow_empty]⟩
          have H6 := Lib.hid (H5.out.grew g6)
          have G6 := Lib.hid g6
          obtain ⟨n1, n2, n3, n4, n5, n6, n7⟩ := facts.out W6 H6.out
          obtain ⟨n8, n9⟩ := box.out W6 G6.out
          rw [hW6]
          clear k1 k2 k3 k4 k5 k6 k7 k8 k9 g6 hW6 heq hgd CA
          by_cases hj0 : j = 0
          · subst hj0
            go_wp2_with fail
            go_roundg (i - (0 + 1))
            case measure => omega
            case rel => exact ⟨0 + 1, q, v1, v2, rfl, by go_num, by omega, Nat.le_refl _, (show Hid _ from ⟨H6.out.mark v1 v2, fun _ => by rw [Nat.add_sub_cancel, HQ.out, HV.out]⟩)⟩
          · have hj0' : decide ((j : Int) > 0) = true := decide_eq_true (by omega)
            obtain ⟨hb1, hb2⟩ := hah (by omega)
            clear hah
            subst hb1
            cases hb2' : b2
            · have hlq : li < q := by
                rcases hb2 with h | h
                · rw [hb2'] at h; cases h
                · exact h
              have hlq' : decide ((q : Int) < li) = false := decide_eq_false (by omega)
              subst hb2'
              clear hb2
              go_wp2_with (first | (go_at_call 19; (with_reducible refine (CP _).out.mono ?_); rintro e W7 ⟨rfl, g7⟩; have H7 := Lib.hid (H6.out.grew g7); have G7 := Lib.hid (G6.out.trans g7); obtain ⟨m1, m2, m3, m4, m5, m6, m7⟩ := facts.out W7 H7.out; obtain ⟨m8, m9⟩ := box.out W7 G7.out; clear g7) | (go_at_call 19; (with_reducible refine (CQ _).out.mono ?_); rintro e W8 ⟨rfl, g8⟩; have H8 := Lib.hid (H7.out.grew g8); have G8 := Lib.hid (G7.out.trans g8); obtain ⟨l1, l2, l3, l4, l5, l6, l7⟩ := facts.out W8 H8.out; obtain ⟨l8, l9⟩ := box.out W8 G8.out; clear g8))
              go_roundg (i - (j + 1))
              case measure => omega
              case rel => exact ⟨j + 1, q, v1, v2, rfl, by go_num, by omega, Nat.le_refl _, (show Hid _ from ⟨H8.out.mark v1 v2, fun _ => by rw [Nat.add_sub_cancel, HQ.out, HV.out]⟩)⟩
            · subst hb2'
              clear hb2
              go_wp2_with (first | (go_at_call 19; (with_reducible refine (CP _).out.mono ?_); rintro e W7 ⟨rfl, g7⟩; have H7 := Lib.hid (H6.out.grew g7); have G7 := Lib.hid (G6.out.trans g7); obtain ⟨m1, m2, m3, m4, m5, m6, m7⟩ := facts.out W7 H7.out; obtain ⟨m8, m9⟩ := box.out W7 G7.out; clear g7) | (go_at_call 19; (with_reducible refine (CQ _).out.mono ?_); rintro e W8 ⟨rfl, g8⟩; have H8 := Lib.hid (H7.out.grew g8); have G8 := Lib.hid (G7.out.trans g8); obtain ⟨l1, l2, l3, l4, l5, l6, l7⟩ := facts.out W8 H8.out; obtain ⟨l8, l9⟩ := box.out W8 G8.out; clear g8))
              go_roundg (i - (j + 1))
              case measure => omega
              case rel => exact ⟨j + 1, q, v1, v2, rfl, by go_num, by omega, Nat.le_refl _, (show Hid _ from ⟨H8.out.mark v1 v2, fun _ => by rw [Nat.add_sub_cancel, HQ.out, HV.out]⟩)⟩
        · obtain rfl : j = i := by omega
          have hj' : decide ((j : Int) < (j : Int)) = false := decide_eq_false (by omega)
          have hnil : S.drop j = [] := List.drop_eq_nil_of_le (by rw [HS.out.1]; exact Nat.le_refl _)
          have CT : Hid (∃ ro, Hs w.heap.size W3 hb mb ro [] ∧ Below w.heap.size w W3) := by
            obtain ⟨ro, h1, h4, _⟩ := HR.out.1
            rw [hnil] at h1
            exact ⟨ro, h1, h4⟩
          clear hnil
          obtain ⟨ro, hH, hBe⟩ := CT.out
          have C2 : Hid (Calls Try.prog 28 #[.pointer (some ⟨hb, 0, none⟩)] W3 fun e w' => e = .returned (.int .i64 0) ∧ W3 = w') := hs_len hH
          have HB := Lib.hid hBe
          clear CT hH hBe
          go_wp2_with (first | (go_at_call 28; (with_reducible refine C2.out.mono ?_); rintro e W5 ⟨rfl, rfl⟩) | (go_at_call 12; (with_reducible refine (CW _).out.mono ?_); rintro e W6 ⟨rfl, b6⟩))
          go_ret
          exact ⟨rfl, HB.out.trans (b6.mono HB.out.size)⟩

/-- A slice of keys that came in. -/
def IsKeys (w : World) (a : Option Addr) (len cap : Nat) : Prop :=
  (a = none ∧ len = 0 ∧ cap = 0) ∨ ∃ (x : Addr) (V : Nat → Ky), a = some x ∧ len ≤ cap ∧ cap ≤ maxLen ∧ ∀ i, i < len → w.cell? (x.add (i * 2)) = some (.int .i64 (V i).1) ∧ w.cell? (x.add (i * 2 + 1)) = some (.int .i64 (V i).2) ∧ (Lit.int .i64 (V i).1).wf = true ∧ (Lit.int .i64 (V i).2).wf = true

theorem walk_HeapKinds (a : Option Addr) (len cap : Nat) (w : World) (h : IsKeys w a len cap) :
    Calls Try.prog 7 #[.slice a len cap] w fun E w' => E = .returned (.bool true) ∧ Below w.heap.size w w' := by
  rcases h with ⟨rfl, rfl, rfl⟩ | ⟨x, V, rfl, hl, hm, hc⟩
  · exact kinds_core none 0 [] 0 rfl (by omega) w (by simp) (.inl rfl)
  · have hl64 : len ≤ 9223372036854775807 := by simp only [maxLen] at hm; omega
    by_cases h60 : 60 < len
    · exact kinds_long _ len cap hl64 h60 w
    · have hk : ∀ i, i < len → ((List.range len).map V).getD i (0, 0) = V i := fun i hi => by
        rw [List.getD_eq_getElem?_getD, List.getElem?_map, List.getElem?_range hi]; rfl
      refine kinds_core _ cap ((List.range len).map V) len (by simp) (by omega) w (fun z hz => ?_) ?_
      · obtain ⟨i, hi, rfl⟩ := List.mem_map.1 hz
        have := hc i (List.mem_range.1 hi)
        exact ⟨bounds_i64 this.2.2.1, bounds_i64 this.2.2.2⟩
      · cases len with
        | zero => exact .inl rfl
        | succ l =>
          have h0 := (hc 0 (by omega)).1
          obtain ⟨g, o, s⟩ := x
          have hs : s = none := by simpa [Addr.add] using World.cell?_spot h0
          subst hs
          have e1 : ∀ i, (⟨g, o, none⟩ : Addr).add i = ⟨g, o + i, none⟩ := fun i => by
            unfold Addr.add
            split
            · subst_vars; rfl
            · rfl
          refine .inr ⟨g, o, rfl, World.block_lt_of_cell? w ⟨g, o, none⟩ (by simpa [e1] using h0), fun i hi => ?_⟩
          have := hc i hi
          rw [e1, e1] at this
          rw [hk i hi]
          exact ⟨this.1, by rw [Nat.add_assoc]; exact this.2.1⟩
end Go.Proofs.Ytibmkdchgfhkpaa.K
