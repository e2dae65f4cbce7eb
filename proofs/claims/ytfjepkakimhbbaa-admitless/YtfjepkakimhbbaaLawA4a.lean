/-
  The walk of AdmitLess, one that is not the last the slice has room for.
-/
import Derived.Test.YtfjepkakimhbbaaLawA4
namespace Go.Proofs.Ytfjepkakimhbbaa
open Go.RowKit Go.Sort Go.Shelf Go.Maps
set_option linter.unusedVariables false
set_option linter.unusedSimpArgs false

set_option maxHeartbeats 4000000 in
set_option maxRecDepth 20000 in
theorem less_mA (h : Bool) (c k : Int) (g o : Nat) (n cap : Nat) (L : List Pa) (i : Nat) (d : Int) (hL : L.length = n) (hi : i < n) (hn : n ≤ 70) (hcap : n ≤ cap) (hbig : cap ≤ 9223372036854775807) (hlt : i + 1 < cap) (ht : testE h c k L = 0) (hd1 : 1 ≤ d) (hd2 : d < (L.getD i p0).1) (cA : AwC9) (w : World) (hp : PAt w (some ⟨g, o, none⟩) L) :
    Calls Try.prog 6 #[.agg #[.bool h, .int .i64 c, .int .i64 k], .slice (some ⟨g, o, none⟩) n cap, .agg #[.int .i64 (i : Int), .int .i64 d]] w fun E w' => E = .returned (.bool true) ∧ Below w.heap.size w w' := by
  have d0 : ((n : Int) == 0) = false := by simp; omega
  have d0' : (n == 0) = false := by simp; omega
  have d1 : decide (70 < n) = false := decide_eq_false (by omega)
  have d2 : decide (70 < (n : Int)) = false := decide_eq_false (by omega)
  have d3 : decide ((i : Int) < 0) = false := decide_eq_false (by omega)
  have d4 : decide ((n : Int) ≤ (i : Int)) = false := decide_eq_false (by omega)
  have d5 : (i : Int) < (n : Int) := by omega
  have d6 : (n : Int) ≤ (cap : Int) := by omega
  obtain ⟨hr, hA, _⟩ := testE_ok ht
  obtain ⟨_, k0, k1⟩ := ruleE_may hr
  obtain ⟨hc1, hfit, hgw⟩ := hp.one (i := i) (by omega)
  obtain ⟨x1, x2, x3, hx⟩ : ∃ x1 x2 x3, L.getD i p0 = (x1, x2, x3) := ⟨_, _, _, rfl⟩
  have hok : okB (x1, x2, x3) = true := by
    rw [← hx, List.getD_eq_getElem?_getD, List.getElem?_eq_getElem (by omega)]
    exact allB_mem hA _ (List.getElem_mem _)
  rw [hx] at hc1 hfit hd2
  dsimp only at hc1 hd2
  obtain ⟨hq1, hq2, hq3⟩ := hfit
  dsimp only at hq1 hq2 hq3
  have CT : Hid (∀ W, Below w.heap.size w W → Calls Try.prog 14 #[.agg #[.bool h, .int .i64 c, .int .i64 k], .slice (some ⟨g, o, none⟩) n cap] W fun e w' => e = .returned (.int .i64 0) ∧ Below W.heap.size W w') := fun W hW => by
    have := atest_any h c k (some ⟨g, o, none⟩) cap L (by omega) W (hp.next hW)
    rw [hL] at this
    rwa [ht] at this
  have CT2 : Hid (∀ W a2 c2, PAt W a2 (L.take i ++ L.drop (i + 1)) → Calls Try.prog 14 #[.agg #[.bool h, .int .i64 c, .int .i64 k], .slice a2 (n - 1) c2] W fun e w' => e = .returned (.int .i64 0) ∧ Below W.heap.size W w') := fun W a2 c2 hW => by
    have := atest_any h c k a2 c2 (L.take i ++ L.drop (i + 1)) (by simp; omega) W hW
    rw [test_rest ht (by omega), show (L.take i ++ L.drop (i + 1)).length = n - 1 by simp; omega] at this
    exact this
  have CT3 : Hid (∀ W a2 c2, PAt W a2 L.reverse → Calls Try.prog 14 #[.agg #[.bool h, .int .i64 c, .int .i64 k], .slice a2 n c2] W fun e w' => e = .returned (.int .i64 0) ∧ Below W.heap.size W w') := fun W a2 c2 hW => by
    have := atest_any h c k a2 c2 L.reverse (by simp; omega) W hW
    rw [test_rev ht, List.length_reverse, hL] at this
    exact this
  have CT4 : Hid (∀ W, Below w.heap.size w W → Calls Try.prog 14 #[.agg #[.bool h, .int .i64 c, .int .i64 (min 16 (k + 1))], .slice (some ⟨g, o, none⟩) n cap] W fun e w' => e = .returned (.int .i64 0) ∧ Below W.heap.size W w') := fun W hW => by
    have := atest_any h c (min 16 (k + 1)) (some ⟨g, o, none⟩) cap L (by omega) W (hp.next hW)
    rw [hL] at this
    rwa [test_more ht] at this
  have CH : Hid (∀ W, Below w.heap.size w W → Calls Try.prog 22 #[.agg #[.bool h, .int .i64 c, .int .i64 k], .int .i64 (i : Int), .agg #[.int .i64 (x1 - d), .int .i64 x2, .int .i64 x3], .slice (some ⟨g, o, none⟩) n cap] W fun e w' => e = .returned (.int .i64 0) ∧ Below W.heap.size W w') := fun W hW => by
    have hu : okB (x1 - d, x2, x3) = true ∧ upA h (x1 - d, x2, x3) ≤ upA h (x1, x2, x3) := up_less h hok (by omega) (by omega)
    have hm := okB_may hok
    dsimp only at hm
    have := change_any h c k (i : Int) (x1 - d, x2, x3) ⟨⟨by dsimp only; omega, by dsimp only; omega⟩, hq2, hq3⟩ (some ⟨g, o, none⟩) cap L (by omega) W (hp.next hW)
    rw [show changeE h c k (i : Int) (x1 - d, x2, x3) L = 0 by unfold changeE; rw [if_pos hr, if_neg (by omega), Int.toNat_natCast]; exact test_set ht (by omega) hu.1 (by rw [hx]; exact hu.2), hL] at this
    exact this
  have HP : Hid (PAt w (some ⟨g, o, none⟩) L ∧ L.length = n ∧ i < n ∧ n ≤ 70) := ⟨hp, hL, hi, hn⟩
  have HC : Hid (∀ W, Below w.heap.size w W → W.cell? ⟨g, o + i * 3, none⟩ = some (.int .i64 x1) ∧ W.cell? ⟨g, o + i * 3 + 1, none⟩ = some (.int .i64 x2) ∧ W.cell? ⟨g, o + i * 3 + 2, none⟩ = some (.int .i64 x3)) := fun W b => ⟨(b.cell (p := ⟨g, o + i * 3, none⟩) hgw).trans hc1.1, (b.cell (p := ⟨g, o + i * 3 + 1, none⟩) hgw).trans hc1.2.1, (b.cell (p := ⟨g, o + i * 3 + 2, none⟩) hgw).trans hc1.2.2⟩
  have hm := okB_may hok
  dsimp only at hm
  have d7 : decide (1 ≤ d) = true := decide_eq_true hd1
  have d8 : decide (d < x1) = true := decide_eq_true hd2
  have d9 : wrap64 (x1 - d) = x1 - d := wrapA (by omega) (by omega)
  clear hm
  have e1 : wrap64 (k + 1) = k + 1 := wrapA (by omega) (by omega)
  have S0 := Lib.hid (Tl.start w h c k (i : Int) d)
  obtain ⟨W0, hW0⟩ : ∃ W0, (w.alloc (.cells #[.bool h, .int .i64 c, .int .i64 k] 23)).alloc (.cells #[.int .i64 (i : Int), .int .i64 d] 49) = W0 := ⟨_, rfl⟩
  rw [hW0] at S0
  have HW := Lib.hid hW0
  clear hW0 hp hL ht hn hc1 hgw hx hok hq1 hq2 hq3 hA hr hd1 hd2
  go_enter Try.func6, Try.ntmps6
  go_wp2_with fail
  rw [HW.out]
  refine (CT.out _ S0.out.below).mono ?_
  rintro e w1 ⟨rfl, b1⟩
  have S1 := Lib.hid (S0.out.next b1)
  have p0 := S1.out.r.c0
  have p1 := S1.out.r.c1
  have p2 := S1.out.r.c2
  have t0 := S1.out.t0
  have t1 := S1.out.t1
  go_wp2_with (at_builtin; refine append_p rfl _ _ rfl w1.heap.size _ [] (L.take i) rfl (OwnP.nil _ _) (some ⟨g, o, none⟩) i cap rfl (by rw [List.length_take, HP.out.2.1]; exact Nat.min_eq_left (Nat.le_of_lt HP.out.2.2.1)) ((HP.out.1.next S1.out.below).take i) (fun e => by cases e) (by have := HP.out.2.2; simp; omega) (Nat.le_refl _) ?_)
  intro v2 w2 hown hgrow
  have b2 : Below w1.heap.size w1 w2 := (Below.refl _ _).grown hgrow (Nat.le_refl _) (fun k e => by cases e)
  have S2 := Lib.hid (S1.out.next b2)
  have HB : Hid (w.heap.size + 1 < w1.heap.size ∧ w1.heap.size ≤ w2.heap.size) := ⟨S1.out.lt, b2.size⟩
  obtain ⟨a2, cap2, e2, _, _⟩ := hown.form
  have el : (L.take i).length = i := by rw [List.length_take, HP.out.2.1]; exact Nat.min_eq_left (Nat.le_of_lt HP.out.2.2.1)
  rw [el] at e2
  subst e2
  have HO := Lib.hid hown
  clear hown hgrow b2 el
  clear p0 p1 p2 t0 t1
  go_wp2_with (at_builtin; refine append_p rfl _ _ rfl w1.heap.size _ (L.take i) (L.drop (i + 1)) rfl HO.out (some ⟨g, o + (i + 1) * 3, none⟩) (n - (i + 1)) (cap - (i + 1)) rfl (by rw [List.length_drop, HP.out.2.1]) ((HP.out.1.next S2.out.below).drop (i + 1)) (fun e => by cases e) (by have := HP.out.2; rw [List.length_take]; omega) HB.out.2 ?_)
  intro v3 w3 hown hgrow
  have b3 : Below w1.heap.size w2 w3 := (Below.refl _ _).grown hgrow HB.out.2 (fun k e => HO.out.blk k e)
  have S3 := Lib.hid (S2.out.far b3 HB.out.1)
  obtain ⟨a3, cap3, e3, _, _⟩ := hown.form
  rw [show (L.take i ++ L.drop (i + 1)).length = n - 1 by have := HP.out.2; simp; omega] at e3
  subst e3
  have HO3 := Lib.hid hown
  clear hown hgrow b3 HO
  go_wp2
  go_loopg [9, 10] n (fun gk s9 s10 wr => ∃ (j : Nat) (x : Int), s10 = .int .i64 x ∧ x = (n : Int) - 1 - j ∧ j ≤ n ∧ n - j ≤ gk ∧ Hid (Tl w wr h c k (i : Int) d ∧ OwnP w1.heap.size wr (.slice a3 (n - 1) cap3) (L.take i ++ L.drop (i + 1)) ∧ OwnP w3.heap.size wr s9 (L.reverse.take j) ∧ Below w3.heap.size w3 wr))
  case atStart => exact ⟨0, (n : Int) - 1, by go_num, by omega, Nat.zero_le _, Nat.le_refl _, S3.out, HO3.out, OwnP.nil _ _, Below.refl _ _⟩
  case round =>
    obtain ⟨j, x, rfl, hx, hj, hgk, HR⟩ := hrel
    rename World => W1
    by_cases hlt2 : j < n
    · obtain ⟨q, rfl⟩ := Int.eq_ofNat_of_zero_le (by omega : 0 ≤ x)
      have hqn : q < n := by omega
      have hqj : n - 1 - j = q := by omega
      have HX : Hid ((q : Int) - 1 = (n : Int) - 1 - ((j + 1 : Nat) : Int)) := by show _ = _; omega
      clear hx
      have q1 : decide ((0 : Int) ≤ (q : Int)) = true := decide_eq_true (by omega)
      have q2 : (q : Int) < (n : Int) := by omega
      obtain ⟨hS, hO3, hO9, hb⟩ := HR.out
      obtain ⟨a9, cap9, e9, _, _⟩ := hO9.form
      have el9 : (L.reverse.take j).length = j := by rw [List.length_take, List.length_reverse, HP.out.2.1]; omega
      rw [el9] at e9
      subst e9
      obtain ⟨⟨c1, c2, c3⟩, hf9, _⟩ := (HP.out.1.next hS.below).one (i := q) (by rw [HP.out.2.1]; exact hqn)
      have er : L.reverse.take (j + 1) = L.reverse.take j ++ [L.getD q p0] := by
        rw [rev_take (by rw [HP.out.2.1]; exact hlt2), HP.out.2.1, hqj]
      have ER := Lib.hid er
      have HB9 := Lib.hid (And.intro hS (And.intro hO3 (And.intro hO9 (And.intro hb el9))))
      have HF9 := Lib.hid hf9
      obtain ⟨y1, y2, y3, hy⟩ : ∃ y1 y2 y3, L.getD q p0 = (y1, y2, y3) := ⟨_, _, _, rfl⟩
      rw [hy] at c1 c2 c3 HF9 ER
      dsimp only at c1 c2 c3
      have q4 : IntKind.i64.wrap ((q : Int) - 1) = (q : Int) - 1 := by rw [IntKind.wrap_i64]; omega
      have q5 : wrap64 ((q : Int) - 1) = (q : Int) - 1 := wrapA (by omega) (by omega)
      clear HR hS hO3 hO9 hb er hf9 hy el9 hqj
      go_wp2_with (at_builtin; refine append_p rfl _ _ rfl w3.heap.size _ (L.reverse.take j) [(y1, y2, y3)] rfl (HB9.out.2.2.1.kept ((Below.refl _ _).alloc (Nat.le_refl _) _)) (some ⟨W1.heap.size, 0, none⟩) 1 1 rfl rfl (built_one W1 (y1, y2, y3) HF9.out) (fun e => by cases e) (by have := HB9.out.2.2.2.2; have := HP.out.2.2; omega) (by have := HB9.out.2.2.2.1.size; simp; omega) ?_)
      intro v4 w4 hown hgrow
      rw [← ER.out] at hown
      have b4 : Below w3.heap.size W1 w4 := ((Below.refl _ _).alloc HB9.out.2.2.2.1.size _).grown hgrow (by have := HB9.out.2.2.2.1.size; simp; omega) (fun k e => HB9.out.2.2.1.blk k e)
      have H4 : Hid (Tl w w4 h c k (i : Int) d ∧ OwnP w1.heap.size w4 (.slice a3 (n - 1) cap3) (L.take i ++ L.drop (i + 1)) ∧ OwnP w3.heap.size w4 v4 (L.reverse.take (j + 1)) ∧ Below w3.heap.size w3 w4) := by
        have bb : Below w3.heap.size w3 w4 := HB9.out.2.2.2.1.trans b4
        exact ⟨S3.out.far bb S3.out.lt, HO3.out.kept bb, hown, bb⟩
      clear hown hgrow b4 HB9
      go_wp2
      go_roundg (n - (j + 1))
      case measure => omega
      exact ⟨j + 1, (q : Int) - 1, by go_num, HX.out, by omega, by omega, H4.out⟩
    · obtain rfl : j = n := by omega
      obtain rfl : x = -1 := by omega
      clear hx
      have er : L.reverse.take j = L.reverse := List.take_of_length_le (by rw [List.length_reverse, HP.out.2.1]; exact Nat.le_refl _)
      rw [er] at HR
      obtain ⟨hS, hO3, hO9, hb⟩ := HR.out
      obtain ⟨a9, cap9, e9, _, _⟩ := hO9.form
      rw [List.length_reverse, HP.out.2.1] at e9
      subst e9
      have S5 := Lib.hid hS
      have HO5 := Lib.hid hO3
      have HO9 := Lib.hid hO9
      clear HR hS hO3 hO9 hb er
      have p0 := S5.out.r.c0
      have p1 := S5.out.r.c1
      have p2 := S5.out.r.c2
      have t0 := S5.out.t0
      have t1 := S5.out.t1
      go_wp2_with fail
      refine (CT2.out _ _ _ HO5.out.at_.2).mono ?_
      rintro e w6 ⟨rfl, b6⟩
      have S6 := Lib.hid (S5.out.next b6)
      have HO6 := Lib.hid (HO9.out.kept b6)
      clear p0 p1 p2 t0 t1
      have p0 := S6.out.r.c0
      have p1 := S6.out.r.c1
      have p2 := S6.out.r.c2
      have t0 := S6.out.t0
      have t1 := S6.out.t1
      go_wp2_with fail
      refine (CT3.out _ _ _ HO6.out.at_.2).mono ?_
      rintro e w7 ⟨rfl, b7⟩
      have S7 := Lib.hid (S6.out.next b7)
      clear p0 p1 p2 t0 t1
      have p0 := S7.out.r.c0
      have p1 := S7.out.r.c1
      have p2 := S7.out.r.c2
      have t0 := S7.out.t0
      have t1 := S7.out.t1
      go_upto_region 17 with fail
      obtain ⟨W7, hW7⟩ : ∃ W7, w7.alloc (.cells #[.bool h, .int .i64 c, .int .i64 k] 23) = W7 := ⟨_, rfl⟩
      rw [hW7]
      have b7' : Below w7.heap.size w7 W7 := by
        rw [← hW7]
        exact (Below.refl _ _).alloc (Nat.le_refl _) _
      have n7 : Box3 W7 w7.heap.size 23 (.bool h) (.int .i64 c) (.int .i64 k) := by
        rw [← hW7]
        exact Box3.start _ _ _ _ _
      have N7 := Lib.hid n7
      have T7 := Lib.hid (S7.out.next b7')
      have fz : W7.frozen? ⟨w7.heap.size, 2, none⟩ = false := by
        have := n7
        unfold Box3 at this
        simp [World.frozen?, this]
      have m2 := n7.c2
      have B7 := Lib.hid b7'
      clear hW7 n7 b7'
      clear p0 p1 p2 t0 t1
      have p0 := T7.out.r.c0
      have p1 := T7.out.r.c1
      have p2 := T7.out.r.c2
      have t0 := T7.out.t0
      have t1 := T7.out.t1
      go_upto_region 18 with fail
      obtain ⟨W8, hW8⟩ : ∃ W8, W7.setCell ⟨w7.heap.size, 2, none⟩ (.int .i64 (min 16 (k + 1))) = W8 := ⟨_, rfl⟩
      rw [hW8]
      have b8 : Below w7.heap.size w7 W8 := by
        rw [← hW8]
        exact B7.out.setCell (p := ⟨w7.heap.size, 2, none⟩) (Nat.le_refl _) _
      have m8 : Box3 W8 w7.heap.size 23 (.bool h) (.int .i64 c) (.int .i64 (min 16 (k + 1))) := by
        rw [← hW8]
        have := N7.out
        unfold Box3 at this ⊢
        simp [World.setCell, Array.getElem?_modify, this]
      clear m2 fz
      have S8 := Lib.hid (S7.out.next b8)
      have m0 := m8.c0
      have m1 := m8.c1
      have m2 := m8.c2
      clear hW8 b8 m8
      clear p0 p1 p2 t0 t1
      have p0 := S8.out.r.c0
      have p1 := S8.out.r.c1
      have p2 := S8.out.r.c2
      have t0 := S8.out.t0
      have t1 := S8.out.t1
      go_wp2_with fail
      refine (CT4.out _ S8.out.below).mono ?_
      rintro e w9 ⟨rfl, b9⟩
      have S9 := Lib.hid (S8.out.next b9)
      obtain ⟨c1, c2, c3⟩ := HC.out _ S9.out.below
      clear m0 m1 m2
      clear p0 p1 p2 t0 t1
      have p0 := S9.out.r.c0
      have p1 := S9.out.r.c1
      have p2 := S9.out.r.c2
      have t0 := S9.out.t0
      have t1 := S9.out.t1
      go_upto_region 21 with fail
      obtain ⟨W9, hW9⟩ : ∃ W9, w9.alloc (.cells #[.int .i64 x1, .int .i64 x2, .int .i64 x3] 40) = W9 := ⟨_, rfl⟩
      rw [hW9]
      have b9' : Below w9.heap.size w9 W9 := by
        rw [← hW9]
        exact (Below.refl _ _).alloc (Nat.le_refl _) _
      have n9 : Box3 W9 w9.heap.size 40 (.int .i64 x1) (.int .i64 x2) (.int .i64 x3) := by
        rw [← hW9]
        exact Box3.start _ _ _ _ _
      have N9 := Lib.hid n9
      have T9 := Lib.hid (S9.out.next b9')
      have fz : W9.frozen? ⟨w9.heap.size, 0, none⟩ = false := by
        have := n9
        unfold Box3 at this
        simp [World.frozen?, this]
      have m0 := n9.c0
      have B9 := Lib.hid b9'
      clear hW9 n9 b9' c1 c2 c3
      clear p0 p1 p2 t0 t1
      have p0 := T9.out.r.c0
      have p1 := T9.out.r.c1
      have p2 := T9.out.r.c2
      have t0 := T9.out.t0
      have t1 := T9.out.t1
      go_upto_region 23 with fail
      obtain ⟨W10, hW10⟩ : ∃ W10, W9.setCell ⟨w9.heap.size, 0, none⟩ (.int .i64 (x1 - d)) = W10 := ⟨_, rfl⟩
      rw [hW10]
      have b10 : Below w9.heap.size w9 W10 := by
        rw [← hW10]
        exact B9.out.setCell (p := ⟨w9.heap.size, 0, none⟩) (Nat.le_refl _) _
      have m10 : Box3 W10 w9.heap.size 40 (.int .i64 (x1 - d)) (.int .i64 x2) (.int .i64 x3) := by
        rw [← hW10]
        have := N9.out
        unfold Box3 at this ⊢
        simp [World.setCell, Array.getElem?_modify, this]
      clear hW10 m0 fz
      have S10 := Lib.hid (S9.out.next b10)
      have m0 := m10.c0
      have m1 := m10.c1
      have m2 := m10.c2
      clear b10 m10
      clear p0 p1 p2 t0 t1
      have p0 := S10.out.r.c0
      have p1 := S10.out.r.c1
      have p2 := S10.out.r.c2
      have t0 := S10.out.t0
      have t1 := S10.out.t1
      go_wp2_with fail
      refine (CH.out _ S10.out.below).mono ?_
      rintro e w11 ⟨rfl, b11⟩
      have S11 := Lib.hid (S10.out.next b11)
      go_wp2_with fail
      refine (Hid.out cA _).mono ?_
      rintro e w40 ⟨rfl, b40⟩
      go_wp2
      go_ret
      exact ⟨rfl, (S11.out.next b40).below⟩

set_option maxHeartbeats 4000000 in
set_option maxRecDepth 20000 in
theorem less_mB (h : Bool) (c k : Int) (g o : Nat) (n cap : Nat) (L : List Pa) (i : Nat) (d : Int) (hL : L.length = n) (hi : i < n) (hn : n ≤ 70) (hcap : n ≤ cap) (hbig : cap ≤ 9223372036854775807) (hlt : i + 1 < cap) (ht : testE h c k L = 0) (hd1 : d < 1) (cA : AwC9) (w : World) (hp : PAt w (some ⟨g, o, none⟩) L) :
    Calls Try.prog 6 #[.agg #[.bool h, .int .i64 c, .int .i64 k], .slice (some ⟨g, o, none⟩) n cap, .agg #[.int .i64 (i : Int), .int .i64 d]] w fun E w' => E = .returned (.bool true) ∧ Below w.heap.size w w' := by
  have d0 : ((n : Int) == 0) = false := by simp; omega
  have d0' : (n == 0) = false := by simp; omega
  have d1 : decide (70 < n) = false := decide_eq_false (by omega)
  have d2 : decide (70 < (n : Int)) = false := decide_eq_false (by omega)
  have d3 : decide ((i : Int) < 0) = false := decide_eq_false (by omega)
  have d4 : decide ((n : Int) ≤ (i : Int)) = false := decide_eq_false (by omega)
  have d5 : (i : Int) < (n : Int) := by omega
  have d6 : (n : Int) ≤ (cap : Int) := by omega
  obtain ⟨hr, hA, _⟩ := testE_ok ht
  obtain ⟨_, k0, k1⟩ := ruleE_may hr
  obtain ⟨hc1, hfit, hgw⟩ := hp.one (i := i) (by omega)
  obtain ⟨x1, x2, x3, hx⟩ : ∃ x1 x2 x3, L.getD i p0 = (x1, x2, x3) := ⟨_, _, _, rfl⟩
  have hok : okB (x1, x2, x3) = true := by
    rw [← hx, List.getD_eq_getElem?_getD, List.getElem?_eq_getElem (by omega)]
    exact allB_mem hA _ (List.getElem_mem _)
  rw [hx] at hc1 hfit
  dsimp only at hc1
  obtain ⟨hq1, hq2, hq3⟩ := hfit
  dsimp only at hq1 hq2 hq3
  have CT : Hid (∀ W, Below w.heap.size w W → Calls Try.prog 14 #[.agg #[.bool h, .int .i64 c, .int .i64 k], .slice (some ⟨g, o, none⟩) n cap] W fun e w' => e = .returned (.int .i64 0) ∧ Below W.heap.size W w') := fun W hW => by
    have := atest_any h c k (some ⟨g, o, none⟩) cap L (by omega) W (hp.next hW)
    rw [hL] at this
    rwa [ht] at this
  have CT2 : Hid (∀ W a2 c2, PAt W a2 (L.take i ++ L.drop (i + 1)) → Calls Try.prog 14 #[.agg #[.bool h, .int .i64 c, .int .i64 k], .slice a2 (n - 1) c2] W fun e w' => e = .returned (.int .i64 0) ∧ Below W.heap.size W w') := fun W a2 c2 hW => by
    have := atest_any h c k a2 c2 (L.take i ++ L.drop (i + 1)) (by simp; omega) W hW
    rw [test_rest ht (by omega), show (L.take i ++ L.drop (i + 1)).length = n - 1 by simp; omega] at this
    exact this
  have CT3 : Hid (∀ W a2 c2, PAt W a2 L.reverse → Calls Try.prog 14 #[.agg #[.bool h, .int .i64 c, .int .i64 k], .slice a2 n c2] W fun e w' => e = .returned (.int .i64 0) ∧ Below W.heap.size W w') := fun W a2 c2 hW => by
    have := atest_any h c k a2 c2 L.reverse (by simp; omega) W hW
    rw [test_rev ht, List.length_reverse, hL] at this
    exact this
  have CT4 : Hid (∀ W, Below w.heap.size w W → Calls Try.prog 14 #[.agg #[.bool h, .int .i64 c, .int .i64 (min 16 (k + 1))], .slice (some ⟨g, o, none⟩) n cap] W fun e w' => e = .returned (.int .i64 0) ∧ Below W.heap.size W w') := fun W hW => by
    have := atest_any h c (min 16 (k + 1)) (some ⟨g, o, none⟩) cap L (by omega) W (hp.next hW)
    rw [hL] at this
    rwa [test_more ht] at this
  have CH : Hid (∀ W, Below w.heap.size w W → Calls Try.prog 22 #[.agg #[.bool h, .int .i64 c, .int .i64 k], .int .i64 (i : Int), .agg #[.int .i64 (x1), .int .i64 x2, .int .i64 x3], .slice (some ⟨g, o, none⟩) n cap] W fun e w' => e = .returned (.int .i64 0) ∧ Below W.heap.size W w') := fun W hW => by
    have hu : okB (x1, x2, x3) = true ∧ upA h (x1, x2, x3) ≤ upA h (x1, x2, x3) := ⟨hok, Int.le_refl _⟩
    have hm := okB_may hok
    dsimp only at hm
    have := change_any h c k (i : Int) (x1, x2, x3) ⟨⟨by dsimp only; omega, by dsimp only; omega⟩, hq2, hq3⟩ (some ⟨g, o, none⟩) cap L (by omega) W (hp.next hW)
    rw [show changeE h c k (i : Int) (x1, x2, x3) L = 0 by unfold changeE; rw [if_pos hr, if_neg (by omega), Int.toNat_natCast]; exact test_set ht (by omega) hu.1 (by rw [hx]; exact hu.2), hL] at this
    exact this
  have HP : Hid (PAt w (some ⟨g, o, none⟩) L ∧ L.length = n ∧ i < n ∧ n ≤ 70) := ⟨hp, hL, hi, hn⟩
  have HC : Hid (∀ W, Below w.heap.size w W → W.cell? ⟨g, o + i * 3, none⟩ = some (.int .i64 x1) ∧ W.cell? ⟨g, o + i * 3 + 1, none⟩ = some (.int .i64 x2) ∧ W.cell? ⟨g, o + i * 3 + 2, none⟩ = some (.int .i64 x3)) := fun W b => ⟨(b.cell (p := ⟨g, o + i * 3, none⟩) hgw).trans hc1.1, (b.cell (p := ⟨g, o + i * 3 + 1, none⟩) hgw).trans hc1.2.1, (b.cell (p := ⟨g, o + i * 3 + 2, none⟩) hgw).trans hc1.2.2⟩
  have d7 : decide (1 ≤ d) = false := decide_eq_false (by omega)
  have e1 : wrap64 (k + 1) = k + 1 := wrapA (by omega) (by omega)
  have S0 := Lib.hid (Tl.start w h c k (i : Int) d)
  obtain ⟨W0, hW0⟩ : ∃ W0, (w.alloc (.cells #[.bool h, .int .i64 c, .int .i64 k] 23)).alloc (.cells #[.int .i64 (i : Int), .int .i64 d] 49) = W0 := ⟨_, rfl⟩
  rw [hW0] at S0
  have HW := Lib.hid hW0
  clear hW0 hp hL ht hn hc1 hgw hx hok hq1 hq2 hq3 hA hr hd1
  go_enter Try.func6, Try.ntmps6
  go_wp2_with fail
  rw [HW.out]
  refine (CT.out _ S0.out.below).mono ?_
  rintro e w1 ⟨rfl, b1⟩
  have S1 := Lib.hid (S0.out.next b1)
  have p0 := S1.out.r.c0
  have p1 := S1.out.r.c1
  have p2 := S1.out.r.c2
  have t0 := S1.out.t0
  have t1 := S1.out.t1
  go_wp2_with (at_builtin; refine append_p rfl _ _ rfl w1.heap.size _ [] (L.take i) rfl (OwnP.nil _ _) (some ⟨g, o, none⟩) i cap rfl (by rw [List.length_take, HP.out.2.1]; exact Nat.min_eq_left (Nat.le_of_lt HP.out.2.2.1)) ((HP.out.1.next S1.out.below).take i) (fun e => by cases e) (by have := HP.out.2.2; simp; omega) (Nat.le_refl _) ?_)
  intro v2 w2 hown hgrow
  have b2 : Below w1.heap.size w1 w2 := (Below.refl _ _).grown hgrow (Nat.le_refl _) (fun k e => by cases e)
  have S2 := Lib.hid (S1.out.next b2)
  have HB : Hid (w.heap.size + 1 < w1.heap.size ∧ w1.heap.size ≤ w2.heap.size) := ⟨S1.out.lt, b2.size⟩
  obtain ⟨a2, cap2, e2, _, _⟩ := hown.form
  have el : (L.take i).length = i := by rw [List.length_take, HP.out.2.1]; exact Nat.min_eq_left (Nat.le_of_lt HP.out.2.2.1)
  rw [el] at e2
  subst e2
  have HO := Lib.hid hown
  clear hown hgrow b2 el
  clear p0 p1 p2 t0 t1
  go_wp2_with (at_builtin; refine append_p rfl _ _ rfl w1.heap.size _ (L.take i) (L.drop (i + 1)) rfl HO.out (some ⟨g, o + (i + 1) * 3, none⟩) (n - (i + 1)) (cap - (i + 1)) rfl (by rw [List.length_drop, HP.out.2.1]) ((HP.out.1.next S2.out.below).drop (i + 1)) (fun e => by cases e) (by have := HP.out.2; rw [List.length_take]; omega) HB.out.2 ?_)
  intro v3 w3 hown hgrow
  have b3 : Below w1.heap.size w2 w3 := (Below.refl _ _).grown hgrow HB.out.2 (fun k e => HO.out.blk k e)
  have S3 := Lib.hid (S2.out.far b3 HB.out.1)
  obtain ⟨a3, cap3, e3, _, _⟩ := hown.form
  rw [show (L.take i ++ L.drop (i + 1)).length = n - 1 by have := HP.out.2; simp; omega] at e3
  subst e3
  have HO3 := Lib.hid hown
  clear hown hgrow b3 HO
  go_wp2
  go_loopg [9, 10] n (fun gk s9 s10 wr => ∃ (j : Nat) (x : Int), s10 = .int .i64 x ∧ x = (n : Int) - 1 - j ∧ j ≤ n ∧ n - j ≤ gk ∧ Hid (Tl w wr h c k (i : Int) d ∧ OwnP w1.heap.size wr (.slice a3 (n - 1) cap3) (L.take i ++ L.drop (i + 1)) ∧ OwnP w3.heap.size wr s9 (L.reverse.take j) ∧ Below w3.heap.size w3 wr))
  case atStart => exact ⟨0, (n : Int) - 1, by go_num, by omega, Nat.zero_le _, Nat.le_refl _, S3.out, HO3.out, OwnP.nil _ _, Below.refl _ _⟩
  case round =>
    obtain ⟨j, x, rfl, hx, hj, hgk, HR⟩ := hrel
    rename World => W1
    by_cases hlt2 : j < n
    · obtain ⟨q, rfl⟩ := Int.eq_ofNat_of_zero_le (by omega : 0 ≤ x)
      have hqn : q < n := by omega
      have hqj : n - 1 - j = q := by omega
      have HX : Hid ((q : Int) - 1 = (n : Int) - 1 - ((j + 1 : Nat) : Int)) := by show _ = _; omega
      clear hx
      have q1 : decide ((0 : Int) ≤ (q : Int)) = true := decide_eq_true (by omega)
      have q2 : (q : Int) < (n : Int) := by omega
      obtain ⟨hS, hO3, hO9, hb⟩ := HR.out
      obtain ⟨a9, cap9, e9, _, _⟩ := hO9.form
      have el9 : (L.reverse.take j).length = j := by rw [List.length_take, List.length_reverse, HP.out.2.1]; omega
      rw [el9] at e9
      subst e9
      obtain ⟨⟨c1, c2, c3⟩, hf9, _⟩ := (HP.out.1.next hS.below).one (i := q) (by rw [HP.out.2.1]; exact hqn)
      have er : L.reverse.take (j + 1) = L.reverse.take j ++ [L.getD q p0] := by
        rw [rev_take (by rw [HP.out.2.1]; exact hlt2), HP.out.2.1, hqj]
      have ER := Lib.hid er
      have HB9 := Lib.hid (And.intro hS (And.intro hO3 (And.intro hO9 (And.intro hb el9))))
      have HF9 := Lib.hid hf9
      obtain ⟨y1, y2, y3, hy⟩ : ∃ y1 y2 y3, L.getD q p0 = (y1, y2, y3) := ⟨_, _, _, rfl⟩
      rw [hy] at c1 c2 c3 HF9 ER
      dsimp only at c1 c2 c3
      have q4 : IntKind.i64.wrap ((q : Int) - 1) = (q : Int) - 1 := by rw [IntKind.wrap_i64]; omega
      have q5 : wrap64 ((q : Int) - 1) = (q : Int) - 1 := wrapA (by omega) (by omega)
      clear HR hS hO3 hO9 hb er hf9 hy el9 hqj
      go_wp2_with (at_builtin; refine append_p rfl _ _ rfl w3.heap.size _ (L.reverse.take j) [(y1, y2, y3)] rfl (HB9.out.2.2.1.kept ((Below.refl _ _).alloc (Nat.le_refl _) _)) (some ⟨W1.heap.size, 0, none⟩) 1 1 rfl rfl (built_one W1 (y1, y2, y3) HF9.out) (fun e => by cases e) (by have := HB9.out.2.2.2.2; have := HP.out.2.2; omega) (by have := HB9.out.2.2.2.1.size; simp; omega) ?_)
      intro v4 w4 hown hgrow
      rw [← ER.out] at hown
      have b4 : Below w3.heap.size W1 w4 := ((Below.refl _ _).alloc HB9.out.2.2.2.1.size _).grown hgrow (by have := HB9.out.2.2.2.1.size; simp; omega) (fun k e => HB9.out.2.2.1.blk k e)
      have H4 : Hid (Tl w w4 h c k (i : Int) d ∧ OwnP w1.heap.size w4 (.slice a3 (n - 1) cap3) (L.take i ++ L.drop (i + 1)) ∧ OwnP w3.heap.size w4 v4 (L.reverse.take (j + 1)) ∧ Below w3.heap.size w3 w4) := by
        have bb : Below w3.heap.size w3 w4 := HB9.out.2.2.2.1.trans b4
        exact ⟨S3.out.far bb S3.out.lt, HO3.out.kept bb, hown, bb⟩
      clear hown hgrow b4 HB9
      go_wp2
      go_roundg (n - (j + 1))
      case measure => omega
      exact ⟨j + 1, (q : Int) - 1, by go_num, HX.out, by omega, by omega, H4.out⟩
    · obtain rfl : j = n := by omega
      obtain rfl : x = -1 := by omega
      clear hx
      have er : L.reverse.take j = L.reverse := List.take_of_length_le (by rw [List.length_reverse, HP.out.2.1]; exact Nat.le_refl _)
      rw [er] at HR
      obtain ⟨hS, hO3, hO9, hb⟩ := HR.out
      obtain ⟨a9, cap9, e9, _, _⟩ := hO9.form
      rw [List.length_reverse, HP.out.2.1] at e9
      subst e9
      have S5 := Lib.hid hS
      have HO5 := Lib.hid hO3
      have HO9 := Lib.hid hO9
      clear HR hS hO3 hO9 hb er
      have p0 := S5.out.r.c0
      have p1 := S5.out.r.c1
      have p2 := S5.out.r.c2
      have t0 := S5.out.t0
      have t1 := S5.out.t1
      go_wp2_with fail
      refine (CT2.out _ _ _ HO5.out.at_.2).mono ?_
      rintro e w6 ⟨rfl, b6⟩
      have S6 := Lib.hid (S5.out.next b6)
      have HO6 := Lib.hid (HO9.out.kept b6)
      clear p0 p1 p2 t0 t1
      have p0 := S6.out.r.c0
      have p1 := S6.out.r.c1
      have p2 := S6.out.r.c2
      have t0 := S6.out.t0
      have t1 := S6.out.t1
      go_wp2_with fail
      refine (CT3.out _ _ _ HO6.out.at_.2).mono ?_
      rintro e w7 ⟨rfl, b7⟩
      have S7 := Lib.hid (S6.out.next b7)
      clear p0 p1 p2 t0 t1
      have p0 := S7.out.r.c0
      have p1 := S7.out.r.c1
      have p2 := S7.out.r.c2
      have t0 := S7.out.t0
      have t1 := S7.out.t1
      go_upto_region 17 with fail
      obtain ⟨W7, hW7⟩ : ∃ W7, w7.alloc (.cells #[.bool h, .int .i64 c, .int .i64 k] 23) = W7 := ⟨_, rfl⟩
      rw [hW7]
      have b7' : Below w7.heap.size w7 W7 := by
        rw [← hW7]
        exact (Below.refl _ _).alloc (Nat.le_refl _) _
      have n7 : Box3 W7 w7.heap.size 23 (.bool h) (.int .i64 c) (.int .i64 k) := by
        rw [← hW7]
        exact Box3.start _ _ _ _ _
      have N7 := Lib.hid n7
      have T7 := Lib.hid (S7.out.next b7')
      have fz : W7.frozen? ⟨w7.heap.size, 2, none⟩ = false := by
        have := n7
        unfold Box3 at this
        simp [World.frozen?, this]
      have m2 := n7.c2
      have B7 := Lib.hid b7'
      clear hW7 n7 b7'
      clear p0 p1 p2 t0 t1
      have p0 := T7.out.r.c0
      have p1 := T7.out.r.c1
      have p2 := T7.out.r.c2
      have t0 := T7.out.t0
      have t1 := T7.out.t1
      go_upto_region 18 with fail
      obtain ⟨W8, hW8⟩ : ∃ W8, W7.setCell ⟨w7.heap.size, 2, none⟩ (.int .i64 (min 16 (k + 1))) = W8 := ⟨_, rfl⟩
      rw [hW8]
      have b8 : Below w7.heap.size w7 W8 := by
        rw [← hW8]
        exact B7.out.setCell (p := ⟨w7.heap.size, 2, none⟩) (Nat.le_refl _) _
      have m8 : Box3 W8 w7.heap.size 23 (.bool h) (.int .i64 c) (.int .i64 (min 16 (k + 1))) := by
        rw [← hW8]
        have := N7.out
        unfold Box3 at this ⊢
        simp [World.setCell, Array.getElem?_modify, this]
      clear m2 fz
      have S8 := Lib.hid (S7.out.next b8)
      have m0 := m8.c0
      have m1 := m8.c1
      have m2 := m8.c2
      clear hW8 b8 m8
      clear p0 p1 p2 t0 t1
      have p0 := S8.out.r.c0
      have p1 := S8.out.r.c1
      have p2 := S8.out.r.c2
      have t0 := S8.out.t0
      have t1 := S8.out.t1
      go_wp2_with fail
      refine (CT4.out _ S8.out.below).mono ?_
      rintro e w9 ⟨rfl, b9⟩
      have S9 := Lib.hid (S8.out.next b9)
      obtain ⟨c1, c2, c3⟩ := HC.out _ S9.out.below
      clear m0 m1 m2
      clear p0 p1 p2 t0 t1
      have p0 := S9.out.r.c0
      have p1 := S9.out.r.c1
      have p2 := S9.out.r.c2
      have t0 := S9.out.t0
      have t1 := S9.out.t1
      go_upto_region 21 with fail
      obtain ⟨W9, hW9⟩ : ∃ W9, w9.alloc (.cells #[.int .i64 x1, .int .i64 x2, .int .i64 x3] 40) = W9 := ⟨_, rfl⟩
      rw [hW9]
      have b9' : Below w9.heap.size w9 W9 := by
        rw [← hW9]
        exact (Below.refl _ _).alloc (Nat.le_refl _) _
      have n9 : Box3 W9 w9.heap.size 40 (.int .i64 x1) (.int .i64 x2) (.int .i64 x3) := by
        rw [← hW9]
        exact Box3.start _ _ _ _ _
      have N9 := Lib.hid n9
      have T9 := Lib.hid (S9.out.next b9')
      have fz : W9.frozen? ⟨w9.heap.size, 0, none⟩ = false := by
        have := n9
        unfold Box3 at this
        simp [World.frozen?, this]
      have m0 := n9.c0
      have B9 := Lib.hid b9'
      clear hW9 n9 b9' c1 c2 c3
      clear p0 p1 p2 t0 t1
      have p0 := T9.out.r.c0
      have p1 := T9.out.r.c1
      have p2 := T9.out.r.c2
      have t0 := T9.out.t0
      have t1 := T9.out.t1
      have b10 := B9.out
      have m10 := N9.out
      clear m0 fz
      have S10 := Lib.hid (S9.out.next b10)
      have m0 := m10.c0
      have m1 := m10.c1
      have m2 := m10.c2
      clear b10 m10
      clear p0 p1 p2 t0 t1
      have p0 := S10.out.r.c0
      have p1 := S10.out.r.c1
      have p2 := S10.out.r.c2
      have t0 := S10.out.t0
      have t1 := S10.out.t1
      go_wp2_with fail
      refine (CH.out _ S10.out.below).mono ?_
      rintro e w11 ⟨rfl, b11⟩
      have S11 := Lib.hid (S10.out.next b11)
      go_wp2_with fail
      refine (Hid.out cA _).mono ?_
      rintro e w40 ⟨rfl, b40⟩
      go_wp2
      go_ret
      exact ⟨rfl, (S11.out.next b40).below⟩

set_option maxHeartbeats 4000000 in
set_option maxRecDepth 20000 in
theorem less_mC (h : Bool) (c k : Int) (g o : Nat) (n cap : Nat) (L : List Pa) (i : Nat) (d : Int) (hL : L.length = n) (hi : i < n) (hn : n ≤ 70) (hcap : n ≤ cap) (hbig : cap ≤ 9223372036854775807) (hlt : i + 1 < cap) (ht : testE h c k L = 0) (hd1 : 1 ≤ d) (hd2 : ¬ d < (L.getD i p0).1) (cA : AwC9) (w : World) (hp : PAt w (some ⟨g, o, none⟩) L) :
    Calls Try.prog 6 #[.agg #[.bool h, .int .i64 c, .int .i64 k], .slice (some ⟨g, o, none⟩) n cap, .agg #[.int .i64 (i : Int), .int .i64 d]] w fun E w' => E = .returned (.bool true) ∧ Below w.heap.size w w' := by
  have d0 : ((n : Int) == 0) = false := by simp; omega
  have d0' : (n == 0) = false := by simp; omega
  have d1 : decide (70 < n) = false := decide_eq_false (by omega)
  have d2 : decide (70 < (n : Int)) = false := decide_eq_false (by omega)
  have d3 : decide ((i : Int) < 0) = false := decide_eq_false (by omega)
  have d4 : decide ((n : Int) ≤ (i : Int)) = false := decide_eq_false (by omega)
  have d5 : (i : Int) < (n : Int) := by omega
  have d6 : (n : Int) ≤ (cap : Int) := by omega
  obtain ⟨hr, hA, _⟩ := testE_ok ht
  obtain ⟨_, k0, k1⟩ := ruleE_may hr
  obtain ⟨hc1, hfit, hgw⟩ := hp.one (i := i) (by omega)
  obtain ⟨x1, x2, x3, hx⟩ : ∃ x1 x2 x3, L.getD i p0 = (x1, x2, x3) := ⟨_, _, _, rfl⟩
  have hok : okB (x1, x2, x3) = true := by
    rw [← hx, List.getD_eq_getElem?_getD, List.getElem?_eq_getElem (by omega)]
    exact allB_mem hA _ (List.getElem_mem _)
  rw [hx] at hc1 hfit hd2
  dsimp only at hc1 hd2
  obtain ⟨hq1, hq2, hq3⟩ := hfit
  dsimp only at hq1 hq2 hq3
  have CT : Hid (∀ W, Below w.heap.size w W → Calls Try.prog 14 #[.agg #[.bool h, .int .i64 c, .int .i64 k], .slice (some ⟨g, o, none⟩) n cap] W fun e w' => e = .returned (.int .i64 0) ∧ Below W.heap.size W w') := fun W hW => by
    have := atest_any h c k (some ⟨g, o, none⟩) cap L (by omega) W (hp.next hW)
    rw [hL] at this
    rwa [ht] at this
  have CT2 : Hid (∀ W a2 c2, PAt W a2 (L.take i ++ L.drop (i + 1)) → Calls Try.prog 14 #[.agg #[.bool h, .int .i64 c, .int .i64 k], .slice a2 (n - 1) c2] W fun e w' => e = .returned (.int .i64 0) ∧ Below W.heap.size W w') := fun W a2 c2 hW => by
    have := atest_any h c k a2 c2 (L.take i ++ L.drop (i + 1)) (by simp; omega) W hW
    rw [test_rest ht (by omega), show (L.take i ++ L.drop (i + 1)).length = n - 1 by simp; omega] at this
    exact this
  have CT3 : Hid (∀ W a2 c2, PAt W a2 L.reverse → Calls Try.prog 14 #[.agg #[.bool h, .int .i64 c, .int .i64 k], .slice a2 n c2] W fun e w' => e = .returned (.int .i64 0) ∧ Below W.heap.size W w') := fun W a2 c2 hW => by
    have := atest_any h c k a2 c2 L.reverse (by simp; omega) W hW
    rw [test_rev ht, List.length_reverse, hL] at this
    exact this
  have CT4 : Hid (∀ W, Below w.heap.size w W → Calls Try.prog 14 #[.agg #[.bool h, .int .i64 c, .int .i64 (min 16 (k + 1))], .slice (some ⟨g, o, none⟩) n cap] W fun e w' => e = .returned (.int .i64 0) ∧ Below W.heap.size W w') := fun W hW => by
    have := atest_any h c (min 16 (k + 1)) (some ⟨g, o, none⟩) cap L (by omega) W (hp.next hW)
    rw [hL] at this
    rwa [test_more ht] at this
  have CH : Hid (∀ W, Below w.heap.size w W → Calls Try.prog 22 #[.agg #[.bool h, .int .i64 c, .int .i64 k], .int .i64 (i : Int), .agg #[.int .i64 (x1), .int .i64 x2, .int .i64 x3], .slice (some ⟨g, o, none⟩) n cap] W fun e w' => e = .returned (.int .i64 0) ∧ Below W.heap.size W w') := fun W hW => by
    have hu : okB (x1, x2, x3) = true ∧ upA h (x1, x2, x3) ≤ upA h (x1, x2, x3) := ⟨hok, Int.le_refl _⟩
    have hm := okB_may hok
    dsimp only at hm
    have := change_any h c k (i : Int) (x1, x2, x3) ⟨⟨by dsimp only; omega, by dsimp only; omega⟩, hq2, hq3⟩ (some ⟨g, o, none⟩) cap L (by omega) W (hp.next hW)
    rw [show changeE h c k (i : Int) (x1, x2, x3) L = 0 by unfold changeE; rw [if_pos hr, if_neg (by omega), Int.toNat_natCast]; exact test_set ht (by omega) hu.1 (by rw [hx]; exact hu.2), hL] at this
    exact this
  have HP : Hid (PAt w (some ⟨g, o, none⟩) L ∧ L.length = n ∧ i < n ∧ n ≤ 70) := ⟨hp, hL, hi, hn⟩
  have HC : Hid (∀ W, Below w.heap.size w W → W.cell? ⟨g, o + i * 3, none⟩ = some (.int .i64 x1) ∧ W.cell? ⟨g, o + i * 3 + 1, none⟩ = some (.int .i64 x2) ∧ W.cell? ⟨g, o + i * 3 + 2, none⟩ = some (.int .i64 x3)) := fun W b => ⟨(b.cell (p := ⟨g, o + i * 3, none⟩) hgw).trans hc1.1, (b.cell (p := ⟨g, o + i * 3 + 1, none⟩) hgw).trans hc1.2.1, (b.cell (p := ⟨g, o + i * 3 + 2, none⟩) hgw).trans hc1.2.2⟩
  have d7 : decide (1 ≤ d) = true := decide_eq_true hd1
  have d8 : decide (d < x1) = false := decide_eq_false hd2
  have e1 : wrap64 (k + 1) = k + 1 := wrapA (by omega) (by omega)
  have S0 := Lib.hid (Tl.start w h c k (i : Int) d)
  obtain ⟨W0, hW0⟩ : ∃ W0, (w.alloc (.cells #[.bool h, .int .i64 c, .int .i64 k] 23)).alloc (.cells #[.int .i64 (i : Int), .int .i64 d] 49) = W0 := ⟨_, rfl⟩
  rw [hW0] at S0
  have HW := Lib.hid hW0
  clear hW0 hp hL ht hn hc1 hgw hx hok hq1 hq2 hq3 hA hr hd1 hd2
  go_enter Try.func6, Try.ntmps6
  go_wp2_with fail
  rw [HW.out]
  refine (CT.out _ S0.out.below).mono ?_
  rintro e w1 ⟨rfl, b1⟩
  have S1 := Lib.hid (S0.out.next b1)
  have p0 := S1.out.r.c0
  have p1 := S1.out.r.c1
  have p2 := S1.out.r.c2
  have t0 := S1.out.t0
  have t1 := S1.out.t1
  go_wp2_with (at_builtin; refine append_p rfl _ _ rfl w1.heap.size _ [] (L.take i) rfl (OwnP.nil _ _) (some ⟨g, o, none⟩) i cap rfl (by rw [List.length_take, HP.out.2.1]; exact Nat.min_eq_left (Nat.le_of_lt HP.out.2.2.1)) ((HP.out.1.next S1.out.below).take i) (fun e => by cases e) (by have := HP.out.2.2; simp; omega) (Nat.le_refl _) ?_)
  intro v2 w2 hown hgrow
  have b2 : Below w1.heap.size w1 w2 := (Below.refl _ _).grown hgrow (Nat.le_refl _) (fun k e => by cases e)
  have S2 := Lib.hid (S1.out.next b2)
  have HB : Hid (w.heap.size + 1 < w1.heap.size ∧ w1.heap.size ≤ w2.heap.size) := ⟨S1.out.lt, b2.size⟩
  obtain ⟨a2, cap2, e2, _, _⟩ := hown.form
  have el : (L.take i).length = i := by rw [List.length_take, HP.out.2.1]; exact Nat.min_eq_left (Nat.le_of_lt HP.out.2.2.1)
  rw [el] at e2
  subst e2
  have HO := Lib.hid hown
  clear hown hgrow b2 el
  clear p0 p1 p2 t0 t1
  go_wp2_with (at_builtin; refine append_p rfl _ _ rfl w1.heap.size _ (L.take i) (L.drop (i + 1)) rfl HO.out (some ⟨g, o + (i + 1) * 3, none⟩) (n - (i + 1)) (cap - (i + 1)) rfl (by rw [List.length_drop, HP.out.2.1]) ((HP.out.1.next S2.out.below).drop (i + 1)) (fun e => by cases e) (by have := HP.out.2; rw [List.length_take]; omega) HB.out.2 ?_)
  intro v3 w3 hown hgrow
  have b3 : Below w1.heap.size w2 w3 := (Below.refl _ _).grown hgrow HB.out.2 (fun k e => HO.out.blk k e)
  have S3 := Lib.hid (S2.out.far b3 HB.out.1)
  obtain ⟨a3, cap3, e3, _, _⟩ := hown.form
  rw [show (L.take i ++ L.drop (i + 1)).length = n - 1 by have := HP.out.2; simp; omega] at e3
  subst e3
  have HO3 := Lib.hid hown
  clear hown hgrow b3 HO
  go_wp2
  go_loopg [9, 10] n (fun gk s9 s10 wr => ∃ (j : Nat) (x : Int), s10 = .int .i64 x ∧ x = (n : Int) - 1 - j ∧ j ≤ n ∧ n - j ≤ gk ∧ Hid (Tl w wr h c k (i : Int) d ∧ OwnP w1.heap.size wr (.slice a3 (n - 1) cap3) (L.take i ++ L.drop (i + 1)) ∧ OwnP w3.heap.size wr s9 (L.reverse.take j) ∧ Below w3.heap.size w3 wr))
  case atStart => exact ⟨0, (n : Int) - 1, by go_num, by omega, Nat.zero_le _, Nat.le_refl _, S3.out, HO3.out, OwnP.nil _ _, Below.refl _ _⟩
  case round =>
    obtain ⟨j, x, rfl, hx, hj, hgk, HR⟩ := hrel
    rename World => W1
    by_cases hlt2 : j < n
    · obtain ⟨q, rfl⟩ := Int.eq_ofNat_of_zero_le (by omega : 0 ≤ x)
      have hqn : q < n := by omega
      have hqj : n - 1 - j = q := by omega
      have HX : Hid ((q : Int) - 1 = (n : Int) - 1 - ((j + 1 : Nat) : Int)) := by show _ = _; omega
      clear hx
      have q1 : decide ((0 : Int) ≤ (q : Int)) = true := decide_eq_true (by omega)
      have q2 : (q : Int) < (n : Int) := by omega
      obtain ⟨hS, hO3, hO9, hb⟩ := HR.out
      obtain ⟨a9, cap9, e9, _, _⟩ := hO9.form
      have el9 : (L.reverse.take j).length = j := by rw [List.length_take, List.length_reverse, HP.out.2.1]; omega
      rw [el9] at e9
      subst e9
      obtain ⟨⟨c1, c2, c3⟩, hf9, _⟩ := (HP.out.1.next hS.below).one (i := q) (by rw [HP.out.2.1]; exact hqn)
      have er : L.reverse.take (j + 1) = L.reverse.take j ++ [L.getD q p0] := by
        rw [rev_take (by rw [HP.out.2.1]; exact hlt2), HP.out.2.1, hqj]
      have ER := Lib.hid er
      have HB9 := Lib.hid (And.intro hS (And.intro hO3 (And.intro hO9 (And.intro hb el9))))
      have HF9 := Lib.hid hf9
      obtain ⟨y1, y2, y3, hy⟩ : ∃ y1 y2 y3, L.getD q p0 = (y1, y2, y3) := ⟨_, _, _, rfl⟩
      rw [hy] at c1 c2 c3 HF9 ER
      dsimp only at c1 c2 c3
      have q4 : IntKind.i64.wrap ((q : Int) - 1) = (q : Int) - 1 := by rw [IntKind.wrap_i64]; omega
      have q5 : wrap64 ((q : Int) - 1) = (q : Int) - 1 := wrapA (by omega) (by omega)
      clear HR hS hO3 hO9 hb er hf9 hy el9 hqj
      go_wp2_with (at_builtin; refine append_p rfl _ _ rfl w3.heap.size _ (L.reverse.take j) [(y1, y2, y3)] rfl (HB9.out.2.2.1.kept ((Below.refl _ _).alloc (Nat.le_refl _) _)) (some ⟨W1.heap.size, 0, none⟩) 1 1 rfl rfl (built_one W1 (y1, y2, y3) HF9.out) (fun e => by cases e) (by have := HB9.out.2.2.2.2; have := HP.out.2.2; omega) (by have := HB9.out.2.2.2.1.size; simp; omega) ?_)
      intro v4 w4 hown hgrow
      rw [← ER.out] at hown
      have b4 : Below w3.heap.size W1 w4 := ((Below.refl _ _).alloc HB9.out.2.2.2.1.size _).grown hgrow (by have := HB9.out.2.2.2.1.size; simp; omega) (fun k e => HB9.out.2.2.1.blk k e)
      have H4 : Hid (Tl w w4 h c k (i : Int) d ∧ OwnP w1.heap.size w4 (.slice a3 (n - 1) cap3) (L.take i ++ L.drop (i + 1)) ∧ OwnP w3.heap.size w4 v4 (L.reverse.take (j + 1)) ∧ Below w3.heap.size w3 w4) := by
        have bb : Below w3.heap.size w3 w4 := HB9.out.2.2.2.1.trans b4
        exact ⟨S3.out.far bb S3.out.lt, HO3.out.kept bb, hown, bb⟩
      clear hown hgrow b4 HB9
      go_wp2
      go_roundg (n - (j + 1))
      case measure => omega
      exact ⟨j + 1, (q : Int) - 1, by go_num, HX.out, by omega, by omega, H4.out⟩
    · obtain rfl : j = n := by omega
      obtain rfl : x = -1 := by omega
      clear hx
      have er : L.reverse.take j = L.reverse := List.take_of_length_le (by rw [List.length_reverse, HP.out.2.1]; exact Nat.le_refl _)
      rw [er] at HR
      obtain ⟨hS, hO3, hO9, hb⟩ := HR.out
      obtain ⟨a9, cap9, e9, _, _⟩ := hO9.form
      rw [List.length_reverse, HP.out.2.1] at e9
      subst e9
      have S5 := Lib.hid hS
      have HO5 := Lib.hid hO3
      have HO9 := Lib.hid hO9
      clear HR hS hO3 hO9 hb er
      have p0 := S5.out.r.c0
      have p1 := S5.out.r.c1
      have p2 := S5.out.r.c2
      have t0 := S5.out.t0
      have t1 := S5.out.t1
      go_wp2_with fail
      refine (CT2.out _ _ _ HO5.out.at_.2).mono ?_
      rintro e w6 ⟨rfl, b6⟩
      have S6 := Lib.hid (S5.out.next b6)
      have HO6 := Lib.hid (HO9.out.kept b6)
      clear p0 p1 p2 t0 t1
      have p0 := S6.out.r.c0
      have p1 := S6.out.r.c1
      have p2 := S6.out.r.c2
      have t0 := S6.out.t0
      have t1 := S6.out.t1
      go_wp2_with fail
      refine (CT3.out _ _ _ HO6.out.at_.2).mono ?_
      rintro e w7 ⟨rfl, b7⟩
      have S7 := Lib.hid (S6.out.next b7)
      clear p0 p1 p2 t0 t1
      have p0 := S7.out.r.c0
      have p1 := S7.out.r.c1
      have p2 := S7.out.r.c2
      have t0 := S7.out.t0
      have t1 := S7.out.t1
      go_upto_region 17 with fail
      obtain ⟨W7, hW7⟩ : ∃ W7, w7.alloc (.cells #[.bool h, .int .i64 c, .int .i64 k] 23) = W7 := ⟨_, rfl⟩
      rw [hW7]
      have b7' : Below w7.heap.size w7 W7 := by
        rw [← hW7]
        exact (Below.refl _ _).alloc (Nat.le_refl _) _
      have n7 : Box3 W7 w7.heap.size 23 (.bool h) (.int .i64 c) (.int .i64 k) := by
        rw [← hW7]
        exact Box3.start _ _ _ _ _
      have N7 := Lib.hid n7
      have T7 := Lib.hid (S7.out.next b7')
      have fz : W7.frozen? ⟨w7.heap.size, 2, none⟩ = false := by
        have := n7
        unfold Box3 at this
        simp [World.frozen?, this]
      have m2 := n7.c2
      have B7 := Lib.hid b7'
      clear hW7 n7 b7'
      clear p0 p1 p2 t0 t1
      have p0 := T7.out.r.c0
      have p1 := T7.out.r.c1
      have p2 := T7.out.r.c2
      have t0 := T7.out.t0
      have t1 := T7.out.t1
      go_upto_region 18 with fail
      obtain ⟨W8, hW8⟩ : ∃ W8, W7.setCell ⟨w7.heap.size, 2, none⟩ (.int .i64 (min 16 (k + 1))) = W8 := ⟨_, rfl⟩
      rw [hW8]
      have b8 : Below w7.heap.size w7 W8 := by
        rw [← hW8]
        exact B7.out.setCell (p := ⟨w7.heap.size, 2, none⟩) (Nat.le_refl _) _
      have m8 : Box3 W8 w7.heap.size 23 (.bool h) (.int .i64 c) (.int .i64 (min 16 (k + 1))) := by
        rw [← hW8]
        have := N7.out
        unfold Box3 at this ⊢
        simp [World.setCell, Array.getElem?_modify, this]
      clear m2 fz
      have S8 := Lib.hid (S7.out.next b8)
      have m0 := m8.c0
      have m1 := m8.c1
      have m2 := m8.c2
      clear hW8 b8 m8
      clear p0 p1 p2 t0 t1
      have p0 := S8.out.r.c0
      have p1 := S8.out.r.c1
      have p2 := S8.out.r.c2
      have t0 := S8.out.t0
      have t1 := S8.out.t1
      go_wp2_with fail
      refine (CT4.out _ S8.out.below).mono ?_
      rintro e w9 ⟨rfl, b9⟩
      have S9 := Lib.hid (S8.out.next b9)
      obtain ⟨c1, c2, c3⟩ := HC.out _ S9.out.below
      clear m0 m1 m2
      clear p0 p1 p2 t0 t1
      have p0 := S9.out.r.c0
      have p1 := S9.out.r.c1
      have p2 := S9.out.r.c2
      have t0 := S9.out.t0
      have t1 := S9.out.t1
      go_upto_region 21 with fail
      obtain ⟨W9, hW9⟩ : ∃ W9, w9.alloc (.cells #[.int .i64 x1, .int .i64 x2, .int .i64 x3] 40) = W9 := ⟨_, rfl⟩
      rw [hW9]
      have b9' : Below w9.heap.size w9 W9 := by
        rw [← hW9]
        exact (Below.refl _ _).alloc (Nat.le_refl _) _
      have n9 : Box3 W9 w9.heap.size 40 (.int .i64 x1) (.int .i64 x2) (.int .i64 x3) := by
        rw [← hW9]
        exact Box3.start _ _ _ _ _
      have N9 := Lib.hid n9
      have T9 := Lib.hid (S9.out.next b9')
      have fz : W9.frozen? ⟨w9.heap.size, 0, none⟩ = false := by
        have := n9
        unfold Box3 at this
        simp [World.frozen?, this]
      have m0 := n9.c0
      have B9 := Lib.hid b9'
      clear hW9 n9 b9' c1 c2 c3
      clear p0 p1 p2 t0 t1
      have p0 := T9.out.r.c0
      have p1 := T9.out.r.c1
      have p2 := T9.out.r.c2
      have t0 := T9.out.t0
      have t1 := T9.out.t1
      have b10 := B9.out
      have m10 := N9.out
      clear m0 fz
      have S10 := Lib.hid (S9.out.next b10)
      have m0 := m10.c0
      have m1 := m10.c1
      have m2 := m10.c2
      clear b10 m10
      clear p0 p1 p2 t0 t1
      have p0 := S10.out.r.c0
      have p1 := S10.out.r.c1
      have p2 := S10.out.r.c2
      have t0 := S10.out.t0
      have t1 := S10.out.t1
      go_wp2_with fail
      refine (CH.out _ S10.out.below).mono ?_
      rintro e w11 ⟨rfl, b11⟩
      have S11 := Lib.hid (S10.out.next b11)
      go_wp2_with fail
      refine (Hid.out cA _).mono ?_
      rintro e w40 ⟨rfl, b40⟩
      go_wp2
      go_ret
      exact ⟨rfl, (S11.out.next b40).below⟩
end Go.Proofs.Ytfjepkakimhbbaa
