/-
  HeapTakes: the walk.
-/
import Derived.Test.YtibmkdchgfhkpaaHpT
namespace Go.Proofs.Ytibmkdchgfhkpaa
open Go.RowKit Go.Sort Go.Shelf Go.Maps
set_option linter.unusedVariables false
set_option linter.unusedSimpArgs false

theorem seen_made {w' : World} {sb n : Nat} (h : w'.ownsRow 0 4 1 (.slice (some ⟨sb, 0, none⟩) n n) n (madeCells (Value.bool false).cells (n * 1)).toList) : SeenAt w' sb n (fun _ => false) := by
  rcases h.2 with ⟨e, _⟩ | ⟨g, cap, cur, e, _, h1, h2, h3, h4, h5⟩
  · cases e
  · simp only [Value.slice.injEq, Option.some.injEq, Addr.mk.injEq, and_true, true_and] at e
    obtain ⟨rfl, rfl⟩ := e
    refine ⟨cur, h1, fun j hj => ?_⟩
    have e1 : (madeCells (Value.bool false).cells (n * 1)).toList = List.replicate (n * 1) (.bool false) := toList_madeCells_one _ _
    rw [e1] at h5
    have h6 : (cur.toList.take (n * 1))[j]? = some (.bool false) := by rw [h5, List.getElem?_replicate, if_pos (by omega)]
    rw [List.getElem?_take, if_pos (by omega)] at h6
    simpa using h6

theorem Sorted.next {S : List Ent} (h : Sorted S) {j : Nat} (hj : j + 1 < S.length) : ah (S.getD j (0, 0)) (S.getD (j + 1) (0, 0)) = true := by
  have h1 : Sorted (S.drop j) := List.Pairwise.sublist (List.drop_sublist j S) h
  rw [drop_getD (show j < S.length by omega)] at h1
  refine (List.pairwise_cons.1 h1).1 _ ?_
  rw [drop_getD hj]
  simp
theorem take_ids {S : List Ent} (hd : S.Pairwise (fun x y => x.1 ≠ y.1)) {j : Nat} (hj : j < S.length) : ∀ x ∈ S.take j, x.1 ≠ (S.getD j (0, 0)).1 := by
  intro x hx
  rw [← List.take_append_drop j S] at hd
  refine (List.pairwise_append.1 hd).2.2 x hx _ ?_
  rw [drop_getD hj]
  simp
theorem take_snoc {S : List Ent} {j : Nat} (hj : j < S.length) : S.take (j + 1) = S.take j ++ [S.getD j (0, 0)] := by
  rw [List.take_add_one, List.getElem?_eq_getElem hj, List.getD_eq_getElem?_getD, List.getElem?_eq_getElem hj]; rfl

/-- What was seen: those that were taken. -/
def SeenIs (S : List Ent) (n j : Nat) (fs : Nat → Bool) (t d : Int) : Prop := (∀ q, q < n → (fs q = true ↔ ∃ x ∈ S.take j, x.1 = (q : Int))) ∧ (0 < j → (d, t) = S.getD (j - 1) (0, 0))

theorem SeenIs.step {S : List Ent} {n j : Nat} {fs : Nat → Bool} {t d : Int} (h : SeenIs S n j fs t d) (hj : j < S.length) {q : Nat} {k : Int} (hq : S.getD j (0, 0) = ((q : Int), k)) : SeenIs S n (j + 1) (fun m => decide (m = q) || fs m) k q := by
  refine ⟨fun m hm => ?_, fun _ => by rw [Nat.add_sub_cancel]; exact hq.symm⟩
  rw [take_snoc hj, hq]
  simp only [Bool.or_eq_true, decide_eq_true_eq, h.1 m hm, List.mem_append, List.mem_singleton]
  constructor
  · rintro (rfl | ⟨x, h1, h2⟩)
    · exact ⟨_, .inr rfl, rfl⟩
    · exact ⟨x, .inl h1, h2⟩
  · rintro ⟨x, h1 | rfl, h2⟩
    · exact .inr ⟨x, h1, h2⟩
    · left
      simp only at h2
      omega
theorem SeenIs.fresh {S : List Ent} {n j : Nat} {fs : Nat → Bool} {t d : Int} (h : SeenIs S n j fs t d) (hd : S.Pairwise (fun x y => x.1 ≠ y.1)) (hj : j < S.length) {q : Nat} {k : Int} (hq : S.getD j (0, 0) = ((q : Int), k)) (hqn : q < n) : fs q = false := by
  cases e : fs q
  · rfl
  · obtain ⟨x, h1, h2⟩ := (h.1 q hqn).1 e
    have := take_ids hd hj x h1
    rw [hq] at this
    exact absurd h2 this

set_option maxRecDepth 20000 in
theorem takes_early (a : Option Addr) (n cap : Nat) (frm : Int) (hn : n ≤ 9223372036854775807) (h : 60 < n ∨ n = 0) (w : World) :
    Calls Try.prog 5 #[.slice a n cap, .int .i64 frm] w fun e w' => e = .returned (.bool true) ∧ Below w.heap.size w w' := by
  have CN : ∀ W, Hid (Calls Try.prog 9 #[lessV] W fun e w' => ∃ hb mb, e = .returned (.tuple #[.pointer (some ⟨hb, 0, none⟩), .int .i64 0]) ∧ Hs W.heap.size w' hb mb none [] ∧ Grew W w' ∧ W.heap.size ≤ hb ∧ W.heap.size ≤ mb) := fun W => hs_new W.heap.size W (Nat.le_refl _)
  have CW : ∀ W, Hid (Calls Try.prog 12 #[] W fun e w' => e = .returned (.bool true) ∧ Below W.heap.size W w') := fun W => awake3 W
  by_cases h60 : 60 < n
  · have h1 : decide ((60 : Int) < (n : Int)) = true := decide_eq_true (by omega)
    have h2 : decide ((n : Int) > 60) = true := decide_eq_true (by omega)
    go_enter Try.func5, Try.ntmps5
    go_wp2_with (first | (go_at_call 9; refine (CN _).out.mono ?_; rintro e w1 ⟨hb, mb, rfl, _, g1, _, _⟩; have G1 : Hid (Below w.heap.size w w1) := (by first | exact g1.below | exact G1.out.trans (g1.below.mono G1.out.size)); clear g1) | (go_at_call 12; refine (CW _).out.mono ?_; rintro e w3 ⟨rfl, b3⟩))
    go_ret
    exact ⟨rfl, G1.out.trans (b3.mono G1.out.size)⟩
  · obtain rfl : n = 0 := by omega
    go_enter Try.func5, Try.ntmps5
    go_wp2_with (first | (go_at_call 9; refine (CN _).out.mono ?_; rintro e w1 ⟨hb, mb, rfl, _, g1, _, _⟩; have G1 : Hid (Below w.heap.size w w1) := (by first | exact g1.below | exact G1.out.trans (g1.below.mono G1.out.size)); clear g1) | (go_at_call 12; refine (CW _).out.mono ?_; rintro e w3 ⟨rfl, b3⟩))
    go_ret
    exact ⟨rfl, G1.out.trans (b3.mono G1.out.size)⟩

set_option maxHeartbeats 8000000 in
set_option maxRecDepth 100000 in
theorem takes_core (g o cap : Nat) (ys : List Int) (n : Nat) (hn : ys.length = n) (h0 : 0 < n) (h60 : n ≤ 60) (frm : Int) (hf64 : Is64 frm) (w : World) (hz : ∀ z ∈ ys, Is64 z) (hg : g < w.heap.size) (hc : ∀ i, i < n → w.cell? ⟨g, o + i, none⟩ = some (.int .i64 (ys.getD i 0))) :
    Calls Try.prog 5 #[.slice (some ⟨g, o, none⟩) n cap, .int .i64 frm] w fun e w' => e = .returned (.bool true) ∧ Below w.heap.size w w' := by
  have CN : ∀ W, w.heap.size ≤ W.heap.size → Hid (Calls Try.prog 9 #[lessV] W fun e w' => ∃ hb mb, e = .returned (.tuple #[.pointer (some ⟨hb, 0, none⟩), .int .i64 0]) ∧ Hs w.heap.size w' hb mb none [] ∧ Grew W w' ∧ W.heap.size ≤ hb ∧ W.heap.size ≤ mb) := fun W hW => hs_new w.heap.size W hW
  have CW : ∀ W, Hid (Calls Try.prog 12 #[] W fun e w' => e = .returned (.bool true) ∧ Below W.heap.size W w') := fun W => awake3 W
  obtain ⟨r, hr⟩ : ∃ r, frm.tmod (n : Int) = r := ⟨_, rfl⟩
  have hr1 : -(n : Int) < r ∧ r < n := by
    rw [← hr]
    have h1 := Int.tmod_lt_of_pos frm (show (0 : Int) < n by omega)
    have h2 := Int.lt_tmod_of_pos frm (show (0 : Int) < n by omega)
    omega
  have hf : ∃ f : Nat, f < n ∧ (r + (n : Int)).tmod (n : Int) = (f : Int) := by
    have h1 := Int.tmod_lt_of_pos (r + (n : Int)) (show (0 : Int) < n by omega)
    have h2 : 0 ≤ (r + (n : Int)).tmod (n : Int) := Int.tmod_nonneg _ (by omega)
    exact ⟨((r + (n : Int)).tmod (n : Int)).toNat, by omega, by omega⟩
  obtain ⟨f, hfn, hf1⟩ := hf
  have w1 : IntKind.i64.wrap r = r := by rw [IntKind.wrap_i64]; omega
  have w2 : IntKind.i64.wrap (r + (n : Int)) = r + (n : Int) := by rw [IntKind.wrap_i64]; omega
  have w3 : IntKind.i64.wrap (f : Int) = (f : Int) := by rw [IntKind.wrap_i64]; omega
  have hn0 : ¬ (n : Int) = 0 := by omega
  have hn1 : ((n : Int) == 0) = false := beq_eq_false_iff_ne.2 (by omega)
  have hn2 : decide ((n : Int) > 60) = false := decide_eq_false (by omega)
  have HZ := Lib.hid hz
  have HC := Lib.hid hc
  obtain ⟨i0, hi0, hb0, hb1, hb2⟩ := info_parts (P := Try.prog) (e := 4) (z := .bool false) (size := 1) (bytes := 1) (by kernel_rfl)
  have HI : Hid (Try.prog.info? 4 = some i0 ∧ i0.zero = some (.bool false) ∧ i0.size = 1 ∧ i0.bytes = 1) := ⟨hi0, hb0, hb1, hb2⟩
  clear hz hc hi0 hb0 hb1 hb2
  go_enter Try.func5, Try.ntmps5
  go_wp2_with fail
  refine (CN _ (Nat.le_refl _)).out.mono ?_
  rintro e wa ⟨ha, ma, rfl, hA, gA, a1, a2⟩
  have zA := gA.size
  go_wp2_with fail
  refine (CN _ zA).out.mono ?_
  rintro e wb ⟨hb, mb, rfl, hB, gB, b1, b2⟩
  have HT : Hid (T1 w ha ma hb mb ys n f 0 0 wb) := ⟨none, none, hA.grew gB, hB, (fun k h1 h2 => by
      have l1 := hA.lt k h1
      rcases h2 with e | e | e
      · omega
      · omega
      · cases e), gA.below.trans (gB.below.mono zA)⟩
  clear hA gA a1 a2 zA hB gB b1 b2
  go_wp2_with fail
  go_loopg [10] n (fun gk s wr => ∃ i : Nat, s = .int .i64 i ∧ i ≤ n ∧ n - i ≤ gk ∧ Hid (T1 w ha ma hb mb ys n f i i wr))
  case atStart => exact ⟨0, rfl, Nat.zero_le _, by omega, HT.out⟩
  case round =>
    rename World => W1
    obtain ⟨i, rfl, hin, hgk, HR⟩ := hrel
    by_cases hi : i < n
    · have hi' : decide ((i : Int) < (n : Int)) = true := decide_eq_true (by omega)
      have hiz : (i : Int) < (n : Int) := by omega
      obtain ⟨k, hk⟩ : ∃ k, (f + i) % n = k := ⟨_, rfl⟩
      have hkn : k < n := by rw [← hk]; exact Nat.mod_lt _ (by omega)
      have hkz : (k : Int) < (n : Int) := by omega
      have q1 : IntKind.i64.wrap ((f : Int) + (i : Int)) = (f : Int) + (i : Int) := by rw [IntKind.wrap_i64]; omega
      have q2 : ((f : Int) + (i : Int)).tmod (n : Int) = (k : Int) := by rw [Int.tmod_eq_emod_of_nonneg (by omega), ← hk]; simp
      have q3 : IntKind.i64.wrap (k : Int) = (k : Int) := by rw [IntKind.wrap_i64]; omega
      have q4 : IntKind.i64.wrap ((i : Int) + 1) = (i : Int) + 1 := by rw [IntKind.wrap_i64]; omega
      have HK := Lib.hid hk
      have hb1 : Below w.heap.size w W1 := by obtain ⟨_, _, _, _, _, h⟩ := HR.out; exact h
      have r1 := (hb1.cell (p := ⟨g, o + i, none⟩) hg).trans (HC.out i hi)
      have CA := Lib.hid (HR.out.putA HZ.out (by omega))
      have r2 : ∀ W2, T1 w ha ma hb mb ys n f (i + 1) i W2 → W2.cell? ⟨g, o + k, none⟩ = some (.int .i64 (ys.getD k 0)) := fun W2 h2 => by
        obtain ⟨_, _, _, _, _, h⟩ := h2
        exact (h.cell (p := ⟨g, o + k, none⟩) hg).trans (HC.out k hkn)
      have CB : ∀ W2, T1 w ha ma hb mb ys n f (i + 1) i W2 → Hid (Calls Try.prog 17 #[.pointer (some ⟨hb, 0, none⟩), .int .i64 k, .int .i64 (ys.getD k 0)] W2 fun e w' => e = .returned (.int .i64 0) ∧ T1 w ha ma hb mb ys n f (i + 1) (i + 1) w') := fun W2 h2 => by
        have := h2.putB HZ.out h60 hfn hi
        rw [HK.out] at this
        exact this
      clear hk hb1
      generalize ys.getD i 0 = vi at *
      generalize ys.getD k 0 = vk at *
      go_wp2_with (first | (go_at_call 17; (with_reducible refine CA.out.mono ?_); rintro e W2 ⟨rfl, h2⟩; have r3 := r2 W2 h2; have H2 := Lib.hid h2; clear h2) | (go_at_call 17; (with_reducible refine (CB _ H2.out).out.mono ?_); rintro e W3 ⟨rfl, h3⟩; have H3 := Lib.hid h3; clear h3))
      go_roundg (n - (i + 1))
      case measure => omega
      case rel => exact ⟨i + 1, by go_num, by omega, Nat.le_refl _, (show Hid _ from H3.out)⟩
    · obtain rfl : i = n := by omega
      have hi' : decide ((i : Int) < (i : Int)) = false := decide_eq_false (by omega)
      clear HT
      obtain ⟨S, hSp, hSs⟩ := exists_sorted (entsTo ys i) (ents_pairwise ys i)
      have hSl : S.length = i := by rw [hSp.length_eq, len_ents]
      have hSd : S.Pairwise (fun x y => x.1 ≠ y.1) := (hSp.pairwise_iff (fun {a b} (h : a.1 ≠ b.1) => h.symm)).2 (ents_pairwise ys i)
      have hSm : ∀ j, j < i → ∃ q : Nat, q < i ∧ S.getD j (0, 0) = ((q : Int), ys.getD q 0) := fun j hj => mem_ents.1 (hSp.mem_iff.1 (mem_getD (by rw [hSl]; exact hj)))
      have HS : Hid (S.length = i ∧ Sorted S ∧ S.Pairwise (fun x y => x.1 ≠ y.1) ∧ S.Perm (entsTo ys i)) := ⟨hSl, hSs, hSd, hSp⟩
      have HM := Lib.hid hSm
      clear hSp hSs hSl hSd hSm
      go_wp2_with (at_make; refine wpList_make_full _ rfl _ _ 47 rfl 0 4 i0 (.bool false) 1 Try.underlying47 HI.out.1 HI.out.2.1 HI.out.2.2.1 .i64 .i64 _ _ i rfl rfl rfl rfl (by rw [HI.out.2.2.2]; omega) (by unfold maxLen; omega) (Nat.zero_le _) ?_; intro ws hows hgs; have HWS := Lib.hid (And.intro hows hgs); clear hows hgs)
      have HT2 : Hid (T2 w ha ma hb mb W1.heap.size ws.heap.size i S 0 0 (fun _ => false) 0 0 (ws.alloc (.cells #[.int .i64 0, .int .i64 0] 36))) := by
        obtain ⟨ra, rb, h1, h2, h3, h4⟩ := HR.out
        obtain ⟨hows, hgs⟩ := HWS.out
        have k1 : Kept (fun _ => False) W1 ws := (Kept.refl _ W1).grown hgs (fun k e => by cases e)
        have k2 : Kept (fun _ => False) W1 (ws.alloc (.cells #[.int .i64 0, .int .i64 0] 36)) := k1.alloc _
        have hs := seen_made hows
        have p1 : (entsTo ys i).Perm (S.drop 0) := HS.out.2.2.2.symm
        have p2 : (rotTo ys i f i).Perm (S.drop 0) := (rot_perm ys hfn).trans p1
        have s1 := hgs.size
        have s2 := h4.size
        have s3 := hs.lt
        refine ⟨ra, rb, (h1.kept k2 (fun _ _ x => x)).perm p1, (h2.kept k2 (fun _ _ x => x)).perm p2, h3, h4.trans (k2.below s2 (fun _ x => x.elim)), hs.kept (Below.heap_alloc _ _ _ hs.lt), heap_alloc_new _ _, ⟨fun x => ?_, fun x => ?_, fun x => ?_, fun x => ?_⟩, by omega, s2, by omega⟩
        · have := h1.lt _ x; omega
        · have := h1.lt _ x; omega
        · have := h2.lt _ x; omega
        · have := h2.lt _ x; omega
      have H0 : Hid (SeenIs S i 0 (fun _ => false) 0 0) := (show SeenIs S i 0 (fun _ => false) 0 0 from ⟨fun q _ => by simp, fun h => absurd h (Nat.lt_irrefl _)⟩)
      generalize W1.heap.size = sb at *
      generalize ws.heap.size = lb at *
      generalize ws.alloc (.cells #[.int .i64 0, .int .i64 0] 36) = W2 at *
      clear HWS HR
      go_loopg [14] i (fun gk s wr => ∃ (j : Nat) (fs : Nat → Bool) (t d : Int), s = .int .i64 j ∧ j ≤ i ∧ i - j ≤ gk ∧ Hid (T2 w ha ma hb mb sb lb i S j j fs t d wr ∧ SeenIs S i j fs t d))
      case atStart => exact ⟨0, fun _ => false, 0, 0, rfl, Nat.zero_le _, by omega, HT2.out, H0.out⟩
      case round =>
        rename World => W3
        obtain ⟨j, fs, t, d, rfl, hji, hgk2, HR⟩ := hrel
        by_cases hj : j < i
        · have hj' : decide ((j : Int) < (i : Int)) = true := decide_eq_true (by omega)
          have q4 : IntKind.i64.wrap ((j : Int) + 1) = (j : Int) + 1 := by rw [IntKind.wrap_i64]; omega
          obtain ⟨q, hqi, hq⟩ := HM.out j hj
          have hjl : j < S.length := by rw [HS.out.1]; exact hj
          have CA := Lib.hid (HR.out.1.takeA HS.out.2.1 hjl)
          have CB : ∀ W, T2 w ha ma hb mb sb lb i S (j + 1) j fs t d W → Hid (Calls Try.prog 18 #[.pointer (some ⟨hb, 0, none⟩)] W fun e w' => e = .returned (.tuple #[.int .i64 (rid S j), .int .i64 (rky S j), .int .i64 0]) ∧ T2 w ha ma hb mb sb lb i S (j + 1) (j + 1) fs t d w') := fun W h => h.takeB HS.out.2.1 hjl
          have e1 : rid S j = (q : Int) := by unfold rid; rw [hq]
          have e2 : rky S j = ys.getD q 0 := by unfold rky; rw [hq]
          rw [e1, e2] at CA
          rw [e1, e2] at CB
          have hfr := HR.out.2.fresh HS.out.2.2.1 hjl hq hqi
          have facts : Hid (∀ W, T2 w ha ma hb mb sb lb i S (j + 1) (j + 1) fs t d W → W.cell? ⟨sb, q, none⟩ = some (.bool false) ∧ W.frozen? ⟨sb, q, none⟩ = false ∧ W.cell? ⟨g, o + q, none⟩ = some (.int .i64 (ys.getD q 0)) ∧ W.cell? ⟨lb, 0, none⟩ = some (.int .i64 t) ∧ W.cell? ⟨lb, 1, none⟩ = some (.int .i64 d) ∧ W.frozen? ⟨lb, 0, none⟩ = false ∧ W.frozen? ⟨lb, 1, none⟩ = false ∧ sb < W.heap.size ∧ lb < W.heap.size ∧ ¬ sb = lb) := fun W h => by
            obtain ⟨_, _, _, _, _, h4, h5, h6, _, h8, _⟩ := h
            have h9 := h5.cell hqi
            rw [hfr] at h9
            exact ⟨h9, h5.thaw q, (h4.cell (p := ⟨g, o + q, none⟩) hg).trans (HC.out q hqi), h6.c0, h6.c1, h6.thaw 0, h6.thaw 1, h5.lt, h6.lt, h8⟩
          have hqz : (q : Int) < (i : Int) := by omega
          have hq0 : decide ((q : Int) < 0) = false := decide_eq_false (by omega)
          have hq1 : decide ((q : Int) ≥ (i : Int)) = false := decide_eq_false (by omega)
          have HQ := Lib.hid hq
          have CP : ∀ W, Hid (Calls Try.prog 19 #[.agg #[.int .i64 t, .int .i64 d], .agg #[.int .i64 (ys.getD q 0), .int .i64 q]] W fun e w' => e = .returned (.bool (ah (d, t) (q, ys.getD q 0))) ∧ Grew W w') := fun W => before_any t d (ys.getD q 0) q W
          clear e1 e2 hfr hq
          by_cases hj0 : j = 0
          · subst hj0
            generalize hv : ys.getD q 0 = v at *
            have HV := Lib.hid hv
            clear hv CP
            go_wp2_with (first | (go_at_call 18; (with_reducible refine CA.out.mono ?_); rintro e W4 ⟨rfl, h4⟩; have H4 := Lib.hid h4; clear h4) | (go_at_call 18; (with_reducible refine (CB _ H4.out).out.mono ?_); rintro e W5 ⟨rfl, h5⟩; have H5 := Lib.hid h5; obtain ⟨f1, f2, f3, f4, f5, f6, f7, f8, f9, f10⟩ := facts.out W5 h5; clear h5))
            go_roundg (i - (0 + 1))
            case measure => omega
            case rel =>
              refine ⟨0 + 1, _, v, q, by go_num, by omega, Nat.le_refl _, (show Hid _ from ⟨(H5.out.mark hqi v q).grew ((Grew.refl _).alloc _), HR.out.2.step hjl (by rw [HQ.out])⟩)⟩
          · have hj0' : decide ((j : Int) > 0) = true := decide_eq_true (by omega)
            have hah : ah (d, t) ((q : Int), ys.getD q 0) = true := by
              have h1 := HR.out.2.2 (by omega)
              rw [h1, ← HQ.out]
              have h2 := HS.out.2.1.next (j := j - 1) (by omega)
              rw [show j - 1 + 1 = j by omega] at h2
              exact h2
            rw [hah] at CP
            generalize hv : ys.getD q 0 = v at *
            have HV := Lib.hid hv
            clear hv hah
            go_wp2_with (first | (go_at_call 18; (with_reducible refine CA.out.mono ?_); rintro e W4 ⟨rfl, h4⟩; have H4 := Lib.hid h4; clear h4) | (go_at_call 18; (with_reducible refine (CB _ H4.out).out.mono ?_); rintro e W5 ⟨rfl, h5⟩; have H5 := Lib.hid h5; obtain ⟨f1, f2, f3, f4, f5, f6, f7, f8, f9, f10⟩ := facts.out W5 h5; clear h5) | (go_at_call 19; (with_reducible refine (CP _).out.mono ?_); rintro e W6 ⟨rfl, g6⟩; have H6 := Lib.hid ((H5.out.grew ((Grew.refl _).alloc _)).grew g6); obtain ⟨k1, k2, k3, k4, k5, k6, k7, k8, k9, k10⟩ := facts.out W6 H6.out; have k11 : W6.cell? ⟨W5.heap.size, 0, none⟩ = some (.int .i64 v) := (by rw [g6.cell (by simp)]; simp [go_sem]); have k12 : W6.cell? ⟨W5.heap.size, 1, none⟩ = some (.int .i64 q) := (by rw [g6.cell (by simp)]; simp [go_sem]); clear g6))
            go_roundg (i - (j + 1))
            case measure => omega
            case rel =>
              refine ⟨j + 1, _, v, q, by go_num, by omega, Nat.le_refl _, (show Hid _ from ⟨H6.out.mark hqi v q, HR.out.2.step hjl (by rw [HQ.out])⟩)⟩
        · obtain rfl : j = i := by omega
          have hj' : decide ((j : Int) < (j : Int)) = false := decide_eq_false (by omega)
          have hnil : S.drop j = [] := List.drop_eq_nil_of_le (by rw [HS.out.1]; exact Nat.le_refl _)
          have CT : Hid (∃ ra, Hs w.heap.size W3 ha ma ra [] ∧ Below w.heap.size w W3) := by
            obtain ⟨ra, rb, h1, h2, h3, h4, _⟩ := HR.out.1
            rw [hnil] at h1
            exact ⟨ra, h1, h4⟩
          clear hnil
          obtain ⟨ra, hH, hBe⟩ := CT.out
          have C1 := Lib.hid (hs_take_nil hH)
          have C2 : ∀ W, Grew W3 W → Hid (Calls Try.prog 20 #[.pointer (some ⟨ha, 0, none⟩)] W fun e w' => e = .returned (.int .i64 0) ∧ W = w') := fun W g => hs_len (hH.grew g)
          have HB := Lib.hid hBe
          clear CT hH hBe
          go_wp2_with (first | (go_at_call 18; (with_reducible refine C1.out.mono ?_); rintro e W4 ⟨rfl, g4⟩) | (go_at_call 20; (with_reducible refine (C2 _ g4).out.mono ?_); rintro e W5 ⟨rfl, rfl⟩) | (go_at_call 12; (with_reducible refine (CW _).out.mono ?_); rintro e W6 ⟨rfl, b6⟩))
          go_ret
          have b4 := HB.out.trans (g4.below.mono HB.out.size)
          exact ⟨rfl, b4.trans (b6.mono b4.size)⟩

theorem walk_HeapTakes (a : Option Addr) (len cap : Nat) (zs : List Int) (frm : Int) (w : World) (h : IsRow w a len cap zs) (hf : Is64 frm) :
    Calls Try.prog 5 #[.slice a len cap, .int .i64 frm] w fun E w' => E = .returned (.bool true) ∧ Below w.heap.size w w' := by
  obtain ⟨ys, rfl, hr, hz, hl⟩ := h.row
  by_cases h60 : 60 < ys.length ∨ ys.length = 0
  · exact takes_early a ys.length cap frm hl h60 w
  · rcases hr with e | ⟨g, o, rfl, hg, hc⟩
    · exact absurd (by rw [e]; rfl) (fun x => h60 (.inr x))
    · exact takes_core g o cap ys ys.length rfl (by omega) (by omega) frm hf w hz hg hc
end Go.Proofs.Ytibmkdchgfhkpaa
