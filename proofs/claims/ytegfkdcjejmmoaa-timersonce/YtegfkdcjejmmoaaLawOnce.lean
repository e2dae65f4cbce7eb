/-
  TimersOnce: its walk.
-/
import Derived.Test.YtegfkdcjejmmoaaTo
import Derived.Deep.LoopGhost
import Derived.Deep.Cut
namespace Go.Proofs.Ytegfkdcjejmmoaa
open Go.RowKit Go.Shelf Go.Maps
set_option linter.unusedVariables false
set_option linter.unusedSimpArgs false

theorem armL_fresh5 {L : List Ent} {i z : Int} (h : ∀ x ∈ L, x.1 < i) : armL L (i, z) = (i, z) :: L := by
  unfold armL
  rw [filter_all (fun y hy => by have := h y hy; omega)]

set_option maxHeartbeats 1000000 in
set_option maxRecDepth 100000 in
theorem once_long (a a2 : Option Addr) (len cap len2 cap2 : Nat) (h : 60 < len ∨ 60 < len2) (w : World) :
    Calls Try.prog 9 #[.slice a len cap, .slice a2 len2 cap2] w fun E w' => E = .returned (.bool true) ∧ Below w.heap.size w w' := by
  have CW := Lib.hid (fun W => awake5 W)
  by_cases h0 : 60 < len
  · have h1 : decide ((len : Int) > 60) = true := decide_eq_true (by omega)
    have h2 : decide (60 < len) = true := decide_eq_true h0
    have h3 : decide (60 < (len : Int)) = true := decide_eq_true (by omega)
    clear h
    go_enter Try.func9, Try.ntmps9
    go_wp2_with fail
    refine (CW.out _).mono ?_
    rintro E w1 ⟨rfl, b1⟩
    go_wp2
    go_ret
    exact ⟨rfl, b1⟩
  · have h0' : 60 < len2 := by omega
    have h1 : decide ((len : Int) > 60) = false := decide_eq_false (by omega)
    have h2 : decide (60 < len) = false := decide_eq_false h0
    have h3 : decide (60 < (len : Int)) = false := decide_eq_false (by omega)
    have k1 : decide ((len2 : Int) > 60) = true := decide_eq_true (by omega)
    have k2 : decide (60 < len2) = true := decide_eq_true h0'
    have k3 : decide (60 < (len2 : Int)) = true := decide_eq_true (by omega)
    clear h
    go_enter Try.func9, Try.ntmps9
    go_wp2_with fail
    refine (CW.out _).mono ?_
    rintro E w1 ⟨rfl, b1⟩
    go_wp2
    go_ret
    exact ⟨rfl, b1⟩

set_option maxHeartbeats 8000000 in
set_option maxRecDepth 100000 in
theorem once_core (a a2 : Option Addr) (cap cap2 : Nat) (ys ss : List Int) (hl : ys.length ≤ 60) (hl2 : ss.length ≤ 60) (w : World) (hr : RowI w a ys) (hr2 : RowI w a2 ss) (h64 : ∀ z ∈ ys, Is64 z) (h642 : ∀ z ∈ ss, Is64 z) :
    Calls Try.prog 9 #[.slice a ys.length cap, .slice a2 ss.length cap2] w fun E w' => E = .returned (.bool true) ∧ Below w.heap.size w w' := by
  obtain ⟨i0, hi0, hz0, hz1, hz2⟩ := info_parts (P := Try.prog) (e := 4) (z := .bool false) (size := 1) (bytes := 1) (by kernel_rfl)
  have HI : Hid (Try.prog.info? 4 = some i0 ∧ i0.zero = some (.bool false) ∧ i0.size = 1 ∧ i0.bytes = 1) := ⟨hi0, hz0, hz1, hz2⟩
  clear hi0 hz0 hz1 hz2
  have CW : ∀ W, Hid (Calls Try.prog 39 #[] W fun E w' => E = .returned (.bool true) ∧ Below W.heap.size W w') := fun W => awake5 W
  have C1 := Lib.hid (tnew_any w.heap.size w (Nat.le_refl _) 60 (by decide) (by decide))
  have HY : Hid ((RowI w a ys ∧ ∀ z ∈ ys, Is64 z) ∧ RowI w a2 ss ∧ ∀ z ∈ ss, Is64 z) := ⟨⟨hr, h64⟩, hr2, h642⟩
  obtain ⟨len, hlen⟩ : ∃ len, ys.length = len := ⟨_, rfl⟩
  obtain ⟨len2, hlen2⟩ : ∃ len2, ss.length = len2 := ⟨_, rfl⟩
  have HN := Lib.hid hlen
  have HN2 := Lib.hid hlen2
  rw [hlen] at hl ⊢
  rw [hlen2] at hl2 ⊢
  clear hr h64 hlen hr2 h642 hlen2
  have h1 : decide ((len : Int) > 60) = false := decide_eq_false (by omega)
  have h2 : decide (60 < len) = false := decide_eq_false (by omega)
  have k1 : decide ((len2 : Int) > 60) = false := decide_eq_false (by omega)
  have k2 : decide (60 < len2) = false := decide_eq_false (by omega)
  go_enter Try.func9, Try.ntmps9
  go_wp2_with fail
  refine C1.out.mono ?_
  rintro E w1 ⟨tb, q1, rfl, t1, g1, _, _⟩
  have T1 : Hid (Ts w.heap.size w1 tb q1 60 0 0 [] ∧ Below w.heap.size w w1) := ⟨t1, g1.below⟩
  clear t1 g1 C1
  go_wp2_with (at_make; refine wpList_make_full _ rfl _ _ 81 rfl 0 4 i0 (.bool false) 1 Try.underlying81 HI.out.1 HI.out.2.1 HI.out.2.2.1 .i64 .i64 _ _ len rfl rfl rfl rfl (by rw [HI.out.2.2.2]; omega) (by unfold maxLen; omega) (Nat.zero_le _) ?_; intro ws hows hgs; have HWS := Lib.hid (And.intro hows hgs); clear hows hgs)
  have T2 : Hid (∃ q L fs, OnceM w ws tb q 0 0 L w1.heap.size len fs ∧ LinkTo ys 0 fs L) := by
    obtain ⟨hows, hgs⟩ := HWS.out
    have k1 : Kept (fun _ => False) w1 ws := (Kept.refl _ w1).grown hgs (fun k e => by cases e)
    have t1 := T1.out.1
    exact ⟨q1, [], _, ⟨t1.kept k1 (fun _ _ x => x), made5 hows, ⟨fun ho => by have := t1.queue.lt _ ho; omega, fun e => by have := t1.lt; omega⟩, T1.out.2.trans (k1.below T1.out.2.size (fun _ x => x.elim)), T1.out.2.size⟩, linkTo_nil ys⟩
  clear HWS T1
  generalize w1.heap.size = sb at *
  go_loopg [8] len (fun gk s8 wr => ∃ i : Nat, s8 = .int .i64 i ∧ i ≤ len ∧ len - i ≤ gk ∧ Hid (∃ q L fs, OnceM w wr tb q 0 0 L sb len fs ∧ LinkTo ys i fs L))
  case atStart => exact ⟨0, rfl, Nat.zero_le _, Nat.le_refl _, T2⟩
  case round =>
    rename World => W2
    obtain ⟨i, rfl, hin, hgk, HR⟩ := hrel
    clear T2
    by_cases hi : i < len
    · have hi' : decide ((i : Int) < (len : Int)) = true := decide_eq_true (by omega)
      have hi2 : decide (i < len) = true := decide_eq_true hi
      have hiz : (i : Int) < (len : Int) := by omega
      have hil : i < ys.length := by rw [HN.out]; exact hi
      obtain ⟨q, L, fs, hM, hK⟩ := HR.out
      rcases HY.out.1.1 with hz | ⟨g, of, rfl, hg, hc⟩
      · rw [hz] at hil
        simp at hil
      have c0 := hc i hil
      have c1 : W2.cell? ⟨g, of + i, none⟩ = some (.int .i64 (ys.getD i 0)) := (hM.low.cell (p := ⟨g, of + i, none⟩) hg).trans c0
      have hz64 : Is64 (ys.getD i 0) := HY.out.1.2 _ (by rw [List.getD_eq_getElem?_getD, List.getElem?_eq_getElem hil]; exact List.getElem_mem hil)
      have HG : Hid (g < w.heap.size ∧ w.cell? ⟨g, of + i, none⟩ = some (.int .i64 (ys.getD i 0))) := ⟨hg, c0⟩
      have H2 : Hid (OnceM w W2 tb q 0 0 L sb len fs ∧ LinkTo ys i fs L) := ⟨hM, hK⟩
      clear hc c0 hM hK HR hg
      obtain ⟨z, hz⟩ : ∃ z, ys.getD i 0 = z := ⟨_, rfl⟩
      have HZ := Lib.hid hz
      rw [hz] at c1 hz64 HG
      clear hz
      by_cases hv : timeE z = 0
      · have CA := Lib.hid (tarm_ok H2.out.1.ts H2.out.1.low.size (i : Int) z (by omega) hv ⟨⟨by omega, by omega⟩, hz64⟩ (by have := H2.out.2.2.2.1; omega) (.inr (by have := H2.out.2.2.2.1; omega)))
        have ARM : Hid (∀ w', (∃ q', LeftQ w.heap.size W2 w' q q' (armL L ((i : Int), z))) → ∃ q L fs, OnceM w w' tb q 0 0 L sb len fs ∧ LinkTo ys (i + 1) (fun k => if k = i then true else fs k) L) := fun w' ⟨q', l⟩ => by
          have m := H2.out.1.arm l (by omega) hv ⟨⟨by omega, by omega⟩, hz64⟩
          rw [armL_fresh5 H2.out.2.2.1] at m
          have k := H2.out.2.yes hil
          rw [HZ.out] at k
          exact ⟨q', _, fs, m, k⟩
        obtain ⟨z0, z1⟩ := timeE_may5 hv
        have e1 : decide (z ≥ 0) = true := decide_eq_true z0
        have e2 : decide (0 ≤ z) = true := decide_eq_true z0
        have e3 : decide (z < 1099511627776) = true := decide_eq_true z1
        clear hv hz64
        go_wp2_with fail
        refine CA.out.mono ?_
        rintro E w3 H3
        obtain ⟨rfl, H3⟩ := H3
        have M3 := Lib.hid (ARM.out w3 H3)
        clear H3 CA ARM
        obtain ⟨y0, y1⟩ : w3.frozen? ⟨sb, i, none⟩ = false ∧ True := ⟨by obtain ⟨q, L, fs, m, k⟩ := M3.out; exact m.seen.thaw i, trivial⟩
        obtain ⟨x0, y2⟩ : (∃ bb, w3.cell? ⟨sb, i, none⟩ = some (.bool bb)) ∧ True := ⟨by obtain ⟨q, L, fs, m, k⟩ := M3.out; exact ⟨_, m.seen.cell hi⟩, trivial⟩
        obtain ⟨bb, x0⟩ := x0
        go_upto_region 11 with (fail)
        obtain ⟨W4, hW4⟩ : ∃ W4, w3.setCell ⟨sb, i, none⟩ (.bool true) = W4 := ⟨_, rfl⟩
        have M4 : Hid (∃ q L fs, OnceM w W4 tb q 0 0 L sb len fs ∧ LinkTo ys (i + 1) fs L ∧ fs i = true) := by
          obtain ⟨q, L, fs, m, k⟩ := M3.out
          rw [← hW4]
          exact ⟨q, L, _, m.put hi true, k, by simp⟩
        rw [hW4]
        clear hW4 M3 x0 y0 y1 y2
        have c5 : W4.cell? ⟨g, of + i, none⟩ = some (.int .i64 z) := by
          obtain ⟨q, L, fs, m, k⟩ := M4.out
          exact (m.low.cell (p := ⟨g, of + i, none⟩) HG.out.1).trans HG.out.2
        have c6 : W4.cell? ⟨sb, i, none⟩ = some (.bool true) := by
          obtain ⟨q, L, fs, m, k, e⟩ := M4.out
          rw [m.seen.cell hi, e]
        go_wp2_with fail
        go_quiet (fail)
        go_wp2
        go_roundg (len - (i + 1))
        case measure => omega
        case rel =>
          refine ⟨i + 1, by go_num, by omega, Nat.le_refl _, ?_⟩
          obtain ⟨q, L, fs, m, k, _⟩ := M4.out
          exact ⟨q, L, fs, m.lies (grewN W4 nq).below, k⟩
      · have hor : z < 0 ∨ 1099511627776 ≤ z := by
          by_cases hh : z < 0 ∨ 1099511627776 ≤ z
          · exact hh
          · exact absurd (timeE_ok (by omega) (by omega)) hv
        have ARM : Hid (∀ w', W2 = w' → ∃ q L fs, OnceM w w' tb q 0 0 L sb len fs ∧ LinkTo ys (i + 1) (fun k => if k = i then false else fs k) L) := fun w' e => e ▸ ⟨q, L, fs, H2.out.1, H2.out.2.no⟩
        have CA0 := tarm_bad (w := W2) (tb := tb) (i : Int) z (by omega) hv
        clear hv hz64
        rcases hor with hneg | hfar
        · rw [timeE_neg hneg] at CA0
          have CA := Lib.hid CA0
          have e1 : decide (z ≥ 0) = false := decide_eq_false (by omega)
          have e2 : decide (0 ≤ z) = false := decide_eq_false (by omega)
          clear CA0
          go_wp2_with fail
          refine CA.out.mono ?_
          rintro E w3 H3
          obtain ⟨rfl, H3⟩ := H3
          have M3 := Lib.hid (ARM.out w3 H3)
          clear H3 CA ARM
          obtain ⟨y0, y1⟩ : w3.frozen? ⟨sb, i, none⟩ = false ∧ True := ⟨by obtain ⟨q, L, fs, m, k⟩ := M3.out; exact m.seen.thaw i, trivial⟩
          obtain ⟨x0, y2⟩ : (∃ bb, w3.cell? ⟨sb, i, none⟩ = some (.bool bb)) ∧ True := ⟨by obtain ⟨q, L, fs, m, k⟩ := M3.out; exact ⟨_, m.seen.cell hi⟩, trivial⟩
          obtain ⟨bb, x0⟩ := x0
          go_upto_region 11 with (fail)
          obtain ⟨W4, hW4⟩ : ∃ W4, w3.setCell ⟨sb, i, none⟩ (.bool false) = W4 := ⟨_, rfl⟩
          have M4 : Hid (∃ q L fs, OnceM w W4 tb q 0 0 L sb len fs ∧ LinkTo ys (i + 1) fs L ∧ fs i = false) := by
            obtain ⟨q, L, fs, m, k⟩ := M3.out
            rw [← hW4]
            exact ⟨q, L, _, m.put hi false, k, by simp⟩
          rw [hW4]
          clear hW4 M3 x0 y0 y1 y2
          have c5 : W4.cell? ⟨g, of + i, none⟩ = some (.int .i64 z) := by
            obtain ⟨q, L, fs, m, k⟩ := M4.out
            exact (m.low.cell (p := ⟨g, of + i, none⟩) HG.out.1).trans HG.out.2
          have c6 : W4.cell? ⟨sb, i, none⟩ = some (.bool false) := by
            obtain ⟨q, L, fs, m, k, e⟩ := M4.out
            rw [m.seen.cell hi, e]
          go_wp2_with fail
          go_quiet (fail)
          go_wp2
          go_roundg (len - (i + 1))
          case measure => omega
          case rel =>
            refine ⟨i + 1, by go_num, by omega, Nat.le_refl _, ?_⟩
            obtain ⟨q, L, fs, m, k, _⟩ := M4.out
            exact ⟨q, L, fs, m.lies (grewN W4 nq).below, k⟩
        · rw [timeE_far hfar] at CA0
          have CA := Lib.hid CA0
          have e1 : decide (z ≥ 0) = true := decide_eq_true (by omega)
          have e2 : decide (0 ≤ z) = true := decide_eq_true (by omega)
          have e3 : decide (z < 1099511627776) = false := decide_eq_false (by omega)
          clear CA0
          go_wp2_with fail
          refine CA.out.mono ?_
          rintro E w3 H3
          obtain ⟨rfl, H3⟩ := H3
          have M3 := Lib.hid (ARM.out w3 H3)
          clear H3 CA ARM
          obtain ⟨y0, y1⟩ : w3.frozen? ⟨sb, i, none⟩ = false ∧ True := ⟨by obtain ⟨q, L, fs, m, k⟩ := M3.out; exact m.seen.thaw i, trivial⟩
          obtain ⟨x0, y2⟩ : (∃ bb, w3.cell? ⟨sb, i, none⟩ = some (.bool bb)) ∧ True := ⟨by obtain ⟨q, L, fs, m, k⟩ := M3.out; exact ⟨_, m.seen.cell hi⟩, trivial⟩
          obtain ⟨bb, x0⟩ := x0
          go_upto_region 11 with (fail)
          obtain ⟨W4, hW4⟩ : ∃ W4, w3.setCell ⟨sb, i, none⟩ (.bool false) = W4 := ⟨_, rfl⟩
          have M4 : Hid (∃ q L fs, OnceM w W4 tb q 0 0 L sb len fs ∧ LinkTo ys (i + 1) fs L ∧ fs i = false) := by
            obtain ⟨q, L, fs, m, k⟩ := M3.out
            rw [← hW4]
            exact ⟨q, L, _, m.put hi false, k, by simp⟩
          rw [hW4]
          clear hW4 M3 x0 y0 y1 y2
          have c5 : W4.cell? ⟨g, of + i, none⟩ = some (.int .i64 z) := by
            obtain ⟨q, L, fs, m, k⟩ := M4.out
            exact (m.low.cell (p := ⟨g, of + i, none⟩) HG.out.1).trans HG.out.2
          have c6 : W4.cell? ⟨sb, i, none⟩ = some (.bool false) := by
            obtain ⟨q, L, fs, m, k, e⟩ := M4.out
            rw [m.seen.cell hi, e]
          go_wp2_with fail
          go_quiet (fail)
          go_wp2
          go_roundg (len - (i + 1))
          case measure => omega
          case rel =>
            refine ⟨i + 1, by go_num, by omega, Nat.le_refl _, ?_⟩
            obtain ⟨q, L, fs, m, k, _⟩ := M4.out
            exact ⟨q, L, fs, m.lies (grewN W4 nq).below, k⟩
    · obtain rfl : len = i := by omega
      have hi' : decide ((len : Int) < (len : Int)) = false := decide_eq_false (by omega)
      have hi2 : decide (len < len) = false := decide_eq_false (by omega)
      have T5 : Hid (∃ q L fs, OnceM w W2 tb q 0 0 L sb len fs ∧ Link ys fs L ∧ L.length ≤ 60) := by
        obtain ⟨q, L, fs, m, k⟩ := HR.out
        exact ⟨q, L, fs, m, k.1, by have := k.2.2.1; omega⟩
      clear HR hgk hin
      go_wp2_with fail
      go_loopg [9, 10, 11] len2 (fun gk s9 s10 s11 wr => ∃ (j : Nat) (c o : Int), s9 = .int .i64 c ∧ s10 = .int .i64 o ∧ s11 = .int .i64 j ∧ j ≤ len2 ∧ len2 - j ≤ gk ∧ 0 ≤ c ∧ c < 1099511627776 ∧ Hid (∃ q L fs, OnceM w wr tb q c o L sb len fs ∧ Link ys fs L ∧ L.length ≤ 60))
      case atStart => exact ⟨0, 0, 0, rfl, rfl, rfl, Nat.zero_le _, Nat.le_refl _, by omega, by omega, T5⟩
      case round =>
        rename World => W5
        obtain ⟨j, c, o, rfl, rfl, rfl, hj, hgk, hc0, hc1, HR⟩ := hrel
        clear T5
        by_cases hjl : j < len2
        · have j1 : decide ((j : Int) < (len2 : Int)) = true := decide_eq_true (by omega)
          have j2 : decide (j < len2) = true := decide_eq_true hjl
          have j3 : (j : Int) < (len2 : Int) := by omega
          have hjs : j < ss.length := by rw [HN2.out]; exact hjl
          obtain ⟨q, L, fs, hM, hK, hL⟩ := HR.out
          rcases HY.out.2.1 with hz | ⟨g2, of2, rfl, hg2, hcc⟩
          · rw [hz] at hjs
            simp at hjs
          have c1 : W5.cell? ⟨g2, of2 + j, none⟩ = some (.int .i64 (ss.getD j 0)) := (hM.low.cell (p := ⟨g2, of2 + j, none⟩) hg2).trans (hcc j hjs)
          have hs64 : Is64 (ss.getD j 0) := HY.out.2.2 _ (by rw [List.getD_eq_getElem?_getD, List.getElem?_eq_getElem hjs]; exact List.getElem_mem hjs)
          have H2 : Hid (OnceM w W5 tb q c o L sb len fs ∧ Link ys fs L ∧ L.length ≤ 60) := ⟨hM, hK, hL⟩
          clear hcc hM hK hL HR hg2 hjs
          generalize ss.getD j 0 = s at *
          by_cases hs0 : s < 0
          · have d1 : decide (s < 0) = true := decide_eq_true hs0
            go_wp2_with fail
            refine (CW _).out.mono ?_
            rintro E w6 ⟨rfl, b6⟩
            go_wp2
            go_ret
            exact ⟨rfl, H2.out.1.low.trans (b6.mono H2.out.1.low.size)⟩
          have d1 : decide (s < 0) = false := decide_eq_false hs0
          by_cases hs1 : 1099511627776 - c ≤ s
          · have d2 : decide (1099511627776 - c ≤ s) = true := decide_eq_true hs1
            go_wp2_with fail
            refine (CW _).out.mono ?_
            rintro E w6 ⟨rfl, b6⟩
            go_wp2
            go_ret
            exact ⟨rfl, H2.out.1.low.trans (b6.mono H2.out.1.low.size)⟩
          have d2 : decide (1099511627776 - c ≤ s) = false := decide_eq_false hs1
          have CD := Lib.hid (due_any H2.out.1.ts (c + s) (timeE_ok (by omega) (by omega)) (by omega) (by have := H2.out.2.2; omega))
          have s0 : 0 ≤ s := by omega
          have s1 : s < 1099511627776 := by omega
          go_wp2_with fail
          refine CD.out.mono ?_
          rintro E w6 ⟨D, Lc, o', ra, rc, rfl, hT, hRow, hKp, hD, hLc⟩
          have M6 := Lib.hid (H2.out.1.due hT hKp)
          have P6 : Hid (DueI (c + s) o L D Lc o' ∧ (∀ y ∈ Lc, c + s < y.2) ∧ Link ys fs (D ++ Lc) ∧ (D ++ Lc).Nodup ∧ L.length ≤ 60 ∧ ∀ x ∈ D, 0 ≤ x.2) := by
            refine ⟨hD, hLc, H2.out.2.1.perm hD.perm, (hD.perm.nodup_iff).1 (nodup_of_diff H2.out.1.ts.diff), H2.out.2.2, fun x hx => ?_⟩
            exact (timeE_may5 ((H2.out.1.ts.good x (hD.perm.mem_iff.2 (List.mem_append_left _ hx))).1.2)).1
          have R6 : Hid (w6.ownsRow W5.heap.size 86 3 (.slice ra D.length rc) D.length (flatF (c + s) D) ∧ sb < W5.heap.size) := ⟨hRow, H2.out.1.seen.lt⟩
          clear hT hRow hKp hD hLc CD H2 c1 hs64
          go_wp2_with fail
          refine (tnow_any M6.out.ts).mono ?_
          rintro E w7 ⟨rfl, rfl⟩
          go_wp2_with fail
          obtain ⟨W7, hW7⟩ : ∃ W7, w6.alloc (.cells #[.int .i64 (-1), .int .i64 0] 37) = W7 := ⟨_, rfl⟩
          have K7 : Hid (∃ fs lt ld, OnceK w W7 tb q (c + s) o o' Lc D sb len ys (.slice ra D.length rc) W5.heap.size w6.heap.size 0 o fs lt ld) := by
            have b7 : Below w6.heap.size w6 W7 := by rw [← hW7]; exact (Below.refl _ _).alloc (Nat.le_refl _) _
            have hg := R6.out.1
            exact ⟨fs, -1, 0, M6.out.lies b7, by rw [List.drop_zero]; exact P6.out.2.2.1, rfl, own_kept hg (fun g e => b7.block g (own_lt hg g e)), by rw [← hW7]; exact B2.start w6 (-1) 0, fun _ => rfl, fun e => by omega, fun b hb => by
              rcases hb with hb | rfl
              · exact M6.out.ts.queue.lt b hb
              · exact M6.out.ts.lt, M6.out.seen.lt, fun g e => ⟨own_lt hg g e, by have := own_block hg g e; have := R6.out.2; omega⟩⟩
          obtain ⟨dl, hdl⟩ : ∃ dl, D.length = dl := ⟨_, rfl⟩
          have HDL := Lib.hid hdl
          rw [hW7]
          rw [hdl] at K7 ⊢
          have hdl60 : dl ≤ 60 := by
            have h1 := P6.out.1.perm.length_eq
            rw [List.length_append, hdl] at h1
            have := P6.out.2.2.2.2.1
            omega
          clear M6 R6 hdl hW7
          generalize w6.heap.size = lb at *
          generalize W5.heap.size = B6 at *
          go_loopg [10, 15] dl (fun gk s10 s15 wr => ∃ (k : Nat) (ow : Int), s10 = .int .i64 ow ∧ s15 = .int .i64 k ∧ k ≤ dl ∧ dl - k ≤ gk ∧ Hid (∃ fs lt ld, OnceK w wr tb q (c + s) o o' Lc D sb len ys (.slice ra dl rc) B6 lb k ow fs lt ld))
          case atStart => exact ⟨0, o, rfl, rfl, Nat.zero_le _, Nat.le_refl _, K7⟩
          case round =>
            rename World => W8
            obtain ⟨k, ow, rfl, rfl, hk, hgk3, HK⟩ := hrel
            clear K7
            by_cases hkl : k < dl
            · have k3 : decide ((k : Int) < (dl : Int)) = true := decide_eq_true (by omega)
              have k4 : decide (k < dl) = true := decide_eq_true hkl
              have k5 : (k : Int) < (dl : Int) := by omega
              have hkD : k < D.length := by rw [HDL.out]; exact hkl
              obtain ⟨fs3, lt, ld, hO⟩ := HK.out
              obtain ⟨hm1, hm2⟩ := mem_getD5 hkD
              obtain ⟨jj, hjj, hx⟩ := hO.link.1 _ (List.mem_append_left Lc hm2)
              have harm : fs3 jj = true := (hO.link.2 jj hjj).2 (by rw [← hx]; exact List.mem_append_left Lc hm2)
              have hjl3 : jj < len := by rw [← HN.out]; exact hjj
              have hrow := hO.row
              rw [HDL.out] at hrow
              obtain ⟨g3, rfl, hcells⟩ := rowN hrow (by omega)
              obtain ⟨f1, f2, f3⟩ := flatF_at (c + s) D k hkD
              rw [hx] at f1 f2 f3
              have x0 := hcells _ _ f1
              have x1 := hcells _ _ f2
              have x2 := hcells _ _ f3
              rcases HY.out.1.1 with hz | ⟨g, of, rfl, hg, hc⟩
              · rw [hz] at hjj
                simp at hjj
              have lc := hc jj hjj
              have a0 : 0 ≤ ys.getD jj 0 := by have := P6.out.2.2.2.2.2 _ hm1; rw [hx] at this; exact this
              have a1 : ys.getD jj 0 ≤ c + s := by have := P6.out.1.early _ hm1; rw [hx] at this; exact this
              have hbef : ah (ld, lt) ((jj : Int), ys.getD jj 0) = true := by
                by_cases hk0 : k = 0
                · rw [ah_eq, hO.first hk0]
                  simp only [decide_eq_true_eq]
                  omega
                · have h1 := sorted_getD P6.out.1.sorted (i := k - 1) (j := k) (by omega) hkD
                  rw [hO.prev (by omega), hx] at h1
                  exact h1
              have STEP : Hid (∀ W', Below W8.heap.size W8 W' → OnceK w (((W'.setCell ⟨sb, jj, none⟩ (.bool false)).setCell ⟨lb, 0, none⟩ (.int .i64 (ys.getD jj 0))).setCell ⟨lb, 1, none⟩ (.int .i64 (jj : Int))) tb q (c + s) o o' Lc D sb len ys (.slice (some ⟨g3, 0, none⟩) dl rc) B6 lb (k + 1) (max ow (c + s - ys.getD jj 0)) (fun m => if m = jj then false else fs3 m) (ys.getD jj 0) (jj : Int)) := fun W' b => (hO.lies b).step hkD hjl3 hx P6.out.2.2.2.1
              have BEF : ∀ W, Hid (Calls Try.prog 21 #[.agg #[.int .i64 lt, .int .i64 ld], .agg #[.int .i64 (ys.getD jj 0), .int .i64 (jj : Int)]] W fun E w' => E = .returned (.bool true) ∧ Below W.heap.size W w') := fun W => by
                have := before_any lt ld (ys.getD jj 0) (jj : Int) W
                rw [hbef] at this
                exact this.mono fun _ _ ⟨e, g⟩ => ⟨e, g.below⟩
              have HO : Hid (OnceK w W8 tb q (c + s) o o' Lc D sb len ys (.slice (some ⟨g3, 0, none⟩) dl rc) B6 lb k ow fs3 lt ld ∧ g < w.heap.size ∧ w.cell? ⟨g, of + jj, none⟩ = some (.int .i64 (ys.getD jj 0)) ∧ fs3 jj = true) := ⟨hO, hg, lc, harm⟩
              clear hO hg lc harm hbef hc hcells f1 f2 f3 hrow hm1 hm2 HK
              clear hx
              generalize ys.getD jj 0 = at_ at *
              go_wp2_with fail
              obtain ⟨W9, hW9⟩ : ∃ W9, (W8.alloc (.cells #[.int .i64 (jj : Int), .int .i64 at_, .int .i64 (c + s - at_)] 86)).alloc (.cells #[.int .i64 at_, .int .i64 (jj : Int)] 37) = W9 := ⟨_, rfl⟩
              have F9 : Hid (Below W8.heap.size W8 W9 ∧ Bf W9 W8.heap.size (jj : Int) at_ (c + s - at_) ∧ B2 W9 (W8.heap.size + 1) at_ (jj : Int)) := by
                rw [← hW9]
                refine ⟨((Below.refl _ _).alloc (Nat.le_refl _) _).alloc (by simp) _, (Bf.start W8 _ _ _).next ((Below.refl _ _).alloc (Nat.le_refl _) _), ?_⟩
                have := B2.start (W8.alloc (.cells #[.int .i64 (jj : Int), .int .i64 at_, .int .i64 (c + s - at_)] 86)) at_ (jj : Int)
                simpa using this
              rw [hW9]
              clear hW9 x0 x1 x2
              have O9 := Lib.hid (HO.out.1.lies F9.out.1)
              have lb8 := HO.out.1.key.lt
              have sb8 := HO.out.1.offs
              have c0 := fun q : LiesB W9 => (F9.out.2.1.next q.h).cells.1
              have c1 := fun q : LiesB W9 => (F9.out.2.1.next q.h).cells.2.1
              have c2 := fun q : LiesB W9 => (F9.out.2.1.next q.h).cells.2.2
              have y0 := fun q : LiesB W9 => (F9.out.2.2.next q.h).cells.1
              have y1 := fun q : LiesB W9 => (F9.out.2.2.next q.h).cells.2
              have e0 := fun q : LiesB W9 => (O9.out.lies q.h).key.cells.1
              have e1 := fun q : LiesB W9 => (O9.out.lies q.h).key.cells.2
              have sc := fun q : LiesB W9 => ((O9.out.lies q.h).m.seen.cell hjl3).trans (by rw [HO.out.2.2.2])
              have lc := fun q : LiesB W9 => ((O9.out.lies q.h).m.low.cell (p := ⟨g, of + jj, none⟩) HO.out.2.1).trans HO.out.2.2.1
              have b1 : decide ((jj : Int) < 0) = false := decide_eq_false (by omega)
              have b2 : decide (len ≤ jj) = false := decide_eq_false (by omega)
              have b3 : decide ((jj : Int) ≥ (len : Int)) = false := decide_eq_false (by omega)
              have b4 : (jj : Int) < (len : Int) := by omega
              have b5 : 0 ≤ (jj : Int) := by omega
              have wr : IntKind.i64.wrap (c + s - at_) = c + s - at_ := IntWalk.i64_in _ (by omega)
              have b6 : decide (c + s - at_ < 0) = false := decide_eq_false (by omega)
              have b7 : decide (c + s < at_) = false := decide_eq_false (by omega)
              haveI hin9 : Inhabited (LiesB W9) := ⟨⟨W9, Below.refl _ _⟩⟩
              refine region_lies mixedT (by kernel_rfl) ?_
              repeat (quiet_step (first | (go_at_call 21; (with_reducible exact lies_call (fun W => (BEF W).out) _))))
              refine wpQuiet_nil ?_
              rintro _ ⟨q9, rfl⟩
              clear c0 c1 c2 y0 y1 e0 e1 sc lc wr hin9 BEF
              have O10 := Lib.hid (O9.out.lies q9.h)
              obtain ⟨c0, c1, c2⟩ := (F9.out.2.1.next q9.h).cells
              obtain ⟨y0, y1⟩ := (F9.out.2.2.next q9.h).cells
              obtain ⟨e0, e1⟩ := O10.out.key.cells
              obtain ⟨z0, z1⟩ := O10.out.key.thaw
              have sc := O10.out.m.seen.cell hjl3
              have st := O10.out.m.seen.thaw jj
              have n1 : W8.heap.size ≠ sb := by omega
              have n2 : W8.heap.size + 1 ≠ sb := by omega
              have n3 : lb ≠ sb := by omega
              have n4 : sb ≠ lb := by omega
              have n5 : W8.heap.size ≠ lb := by omega
              have n6 : W8.heap.size + 1 ≠ lb := by omega
              have S10 := Lib.hid (STEP.out q9.v (F9.out.1.trans (q9.h.mono F9.out.1.size)))
              clear STEP F9 O9 HO O10
              go_wp2
              go_roundg (dl - (k + 1))
              case measure => omega
              case rel => exact ⟨k + 1, _, rfl, by go_num, by omega, Nat.le_refl _, ⟨_, _, _, S10.out⟩⟩
            · obtain rfl : dl = k := by omega
              have k3 : decide ((dl : Int) < (dl : Int)) = false := decide_eq_false (by omega)
              have k4 : decide (dl < dl) = false := decide_eq_false (by omega)
              obtain ⟨fs4, lt, ld, hO⟩ := HK.out
              have how : ow = o' := by
                rw [hO.worst, P6.out.1.worst, ← HDL.out, List.take_length]
              have T9 : Hid (OnceM w W8 tb q (c + s) o' Lc sb len fs4) := hO.m
              have LK : Hid (Link ys fs4 Lc) := by
                have := hO.link
                rw [← HDL.out, List.drop_length, List.nil_append] at this
                exact this
              have LL : Hid (Lc.length ≤ 60) := by
                have h1 := P6.out.1.perm.length_eq
                rw [List.length_append] at h1
                have := P6.out.2.2.2.2.1
                show Lc.length ≤ 60
                omega
              clear hO HK
              subst how
              go_wp2_with fail
              go_loopg [18] len (fun gk s18 wr => ∃ k : Nat, s18 = .int .i64 k ∧ k ≤ len ∧ len - k ≤ gk ∧ Hid (OnceM w wr tb q (c + s) ow Lc sb len fs4))
              case atStart => exact ⟨0, rfl, Nat.zero_le _, Nat.le_refl _, T9⟩
              case round =>
                rename World => W10
                obtain ⟨kk, rfl, hk4, hgk4, HM4⟩ := hrel
                clear T9
                by_cases hkk : kk < len
                · have m1 : decide ((kk : Int) < (len : Int)) = true := decide_eq_true (by omega)
                  have m2 : decide (kk < len) = true := decide_eq_true hkk
                  have m3 : (kk : Int) < (len : Int) := by omega
                  have hky : kk < ys.length := by rw [HN.out]; exact hkk
                  rcases HY.out.1.1 with hz | ⟨g, of, rfl, hg, hc⟩
                  · rw [hz] at hky
                    simp at hky
                  have lc : W10.cell? ⟨g, of + kk, none⟩ = some (.int .i64 (ys.getD kk 0)) := (HM4.out.low.cell (p := ⟨g, of + kk, none⟩) hg).trans (hc kk hky)
                  have sc := HM4.out.seen.cell hkk
                  cases hfs : fs4 kk
                  · rw [hfs] at sc
                    clear hc hfs
                    generalize ys.getD kk 0 = z at *
                    go_wp2
                    go_roundg (len - (kk + 1))
                    case measure => omega
                    case rel => exact ⟨kk + 1, by go_num, by omega, Nat.le_refl _, HM4⟩
                  · have hlate := P6.out.2.1 _ ((LK.out.2 kk hky).1 hfs)
                    have m4 : decide (ys.getD kk 0 ≤ c + s) = false := decide_eq_false (by have : c + s < ys.getD kk 0 := hlate; omega)
                    rw [hfs] at sc
                    clear hc hfs hlate
                    generalize ys.getD kk 0 = z at *
                    go_wp2
                    go_roundg (len - (kk + 1))
                    case measure => omega
                    case rel => exact ⟨kk + 1, by go_num, by omega, Nat.le_refl _, HM4⟩
                · obtain rfl : len = kk := by omega
                  have m1 : decide ((len : Int) < (len : Int)) = false := decide_eq_false (by omega)
                  have m2 : decide (len < len) = false := decide_eq_false (by omega)
                  go_wp2
                  go_roundg (len2 - (j + 1))
                  case measure => omega
                  case rel => exact ⟨j + 1, c + s, ow, rfl, rfl, by go_num, by omega, Nat.le_refl _, by omega, by omega, ⟨q, Lc, fs4, HM4.out, LK.out, LL.out⟩⟩
        · obtain rfl : len2 = j := by omega
          have j1 : decide ((len2 : Int) < (len2 : Int)) = false := decide_eq_false (by omega)
          have j2 : decide (len2 < len2) = false := decide_eq_false (by omega)
          obtain ⟨q, L, fs, hM, _, _⟩ := HR.out
          have H2 := Lib.hid hM
          clear hM HR
          go_wp2_with fail
          refine (tworst_any H2.out.ts).mono ?_
          rintro E w8 ⟨rfl, rfl⟩
          go_wp2_with fail
          refine (CW _).out.mono ?_
          rintro E w9 ⟨rfl, b9⟩
          go_wp2
          go_ret
          exact ⟨rfl, H2.out.low.trans (b9.mono H2.out.low.size)⟩

theorem walk_TimersOnce (a : Option Addr) (len cap : Nat) (zs : List Int) (a2 : Option Addr) (len2 cap2 : Nat) (zs2 : List Int) (w : World) (h : IsRow w a len cap zs) (h2 : IsRow w a2 len2 cap2 zs2) :
    Calls Try.prog 9 #[.slice a len cap, .slice a2 len2 cap2] w fun E w' => E = .returned (.bool true) ∧ Below w.heap.size w w' := by
  by_cases hl : 60 < len ∨ 60 < len2
  · exact once_long a a2 len cap len2 cap2 hl w
  · obtain ⟨ys, rfl, h1, h3, _⟩ := h.row
    obtain ⟨ss, rfl, h4, h5, _⟩ := h2.row
    exact once_core a a2 cap cap2 ys ss (by omega) (by omega) w h1 h4 h3 h5
end Go.Proofs.Ytegfkdcjejmmoaa
