/-
  The reference's queue (layer 4): Put.
-/
import Derived.Test.YtcipilggddpnpaaR4a
import Derived.Deep.LoopGhost
namespace Go.Proofs.Ytcipilggddpnpaa
open Go.RowKit Go.Shelf Go.Maps
set_option linter.unusedVariables false
set_option linter.unusedSimpArgs false

/-- Between two rounds of the reference's Put. -/
structure PutN (B : Nat) (w W : World) (nb : Nat) (S l : List Ent) (i : Nat) (N : List Ent) : Prop where
  next : RefIs B W nb N
  perm : N.Perm ((l.take i).reverse ++ S)
  sorted : Sorted N
  diff : Diff N
  kept : Kept (fun _ => False) w W
  todo : putsR S l = putsR ((l.take i).reverse ++ S) (l.drop i)
theorem PutN.grew {B : Nat} {w W W' : World} {nb : Nat} {S l : List Ent} {i : Nat} {N : List Ent} (h : PutN B w W nb S l i N) (g : Grew W W') : PutN B w W' nb S l i N :=
  ⟨h.next.grew g, h.perm, h.sorted, h.diff, h.kept.trans (g.kept _), h.todo⟩
theorem PutN.len {B : Nat} {w W : World} {nb : Nat} {S l : List Ent} {i : Nat} {N : List Ent} (h : PutN B w W nb S l i N) (hi : i ≤ l.length) : N.length = i + S.length := by
  rw [h.perm.length_eq, List.length_append, List.length_reverse, List.length_take]
  omega
theorem find_gen {N : List Ent} (hd : Diff N) {x : Int} (h : has N x = true) : ∃ i : Nat, i < N.length ∧ findR N x N.length 0 = (i : Int) := by
  rcases find_any hd x with ⟨_, i, h1, _, h2⟩ | ⟨h1, _⟩
  · exact ⟨i, h1, h2⟩
  · rw [h1] at h; cases h
theorem find_not {N : List Ent} (hd : Diff N) {x : Int} (h : has N x = false) : findR N x N.length 0 = -1 := by
  rcases find_any hd x with ⟨h1, _⟩ | ⟨_, h2⟩
  · rw [h1] at h; cases h
  · exact h2
theorem no_none : ∀ (b : Nat) (o : Obj), (fun _ : Nat => False) b → ∀ (W : World), W.heap[b]? = some o → tyOf o ≠ some 48 ∧ tyOf o ≠ some 37 := fun _ _ h => h.elim

set_option maxHeartbeats 8000000 in
set_option maxRecDepth 20000 in
theorem rput4_any {B : Nat} {w : World} {rf : Nat} {S l : List Ent} (h : RefIs B w rf S) (hd : Diff S) (hs : Sorted S) (hB : B ≤ w.heap.size) (a : Option Addr) (cap : Nat) (hl : KeysAt w a l) (hr : S.length + l.length < 1099511627776) :
    Calls Try.prog 45 #[.pointer (some ⟨rf, 0, none⟩), .slice a l.length cap] w fun E w' => E = .returned (.int .i64 (putsR S l)) ∧ (∃ N, RefIs B w' rf N ∧ Sorted N ∧ N.Perm (putsL S l)) ∧ Kept (fun k => k = rf) w w' := by
  obtain ⟨W1, hW1⟩ : ∃ W1, w.alloc (.cells #[.slice none 0 0] 48) = W1 := ⟨_, rfl⟩
  have g1 : Grew w W1 := by rw [← hW1]; exact (Grew.refl w).alloc _
  have e2 : W1.heap[w.heap.size]? = some (.cells #[.slice none 0 0] 48 (0, 0)) := by rw [← hW1]; exact heap_alloc_new _ _
  have R1 := h.grew g1
  obtain ⟨v, v1, ⟨a0, cap0, rfl⟩, v3⟩ := ref_slice4 R1
  obtain ⟨a7, c7, w7, hrun, hrow, hgrow⟩ := slice_copied (v3 W1.drew (fun p u h => h)) (by omega)
  have lth : w.heap.size < W1.heap.size := (Array.getElem?_eq_some_iff.1 e2).1
  have o7 : w7.heap[w.heap.size]? = some (.cells #[.slice none 0 0] 48 (0, 0)) := (hgrow.block _ lth (fun e => by cases e)).trans e2
  have d4 : w7.cell? ⟨w.heap.size, 0, none⟩ = some (.slice none 0 0) := by simp [World.cell?, o7]
  have d5 : w7.frozen? ⟨w.heap.size, 0, none⟩ = false := by simp [World.frozen?, o7]
  have x1 : W1.cell? ⟨w.heap.size, 0, none⟩ = some (.slice none 0 0) := by simp [World.cell?, e2]
  obtain ⟨W7, hW7⟩ : ∃ W7, w7.setCell ⟨w.heap.size, 0, none⟩ (.slice a7 S.length c7) = W7 := ⟨_, rfl⟩
  have k7 : Kept (fun i => i = w.heap.size) W1 W7 := by
    rw [← hW7]
    exact (((Kept.refl (fun i => i = w.heap.size) W1).drew).grown hgrow (fun k e => by cases e)).setCell (p := ⟨w.heap.size, 0, none⟩) (.inl rfl) _
  have H7 : Hid (PutN B w W7 w.heap.size S l 0 S) := by
    refine ⟨?_, List.Perm.refl _, hs, hd, (g1.kept _).andThen k7 (fun i e => .inr (by omega)), rfl⟩
    rw [← hW7]
    refine ref_store o7 rfl ?_
    have := hrow
    rw [List.take_length] at this
    refine ⟨this.1, ?_⟩
    rcases this.2 with e | ⟨g, c, cur, e, hb, r⟩
    · exact .inl e
    · exact .inr ⟨g, c, cur, e, Nat.le_trans hB (Nat.le_trans g1.size hb), r⟩
  have HW7 := Lib.hid hW7
  have HW1 := Lib.hid hW1
  have HH : Hid (RefIs B w rf S ∧ Sorted S ∧ KeysAt w a l ∧ B ≤ w.heap.size ∧ S.length + l.length < 1099511627776) := ⟨h, hs, hl, hB, hr⟩
  obtain ⟨n, hn⟩ : ∃ n, l.length = n := ⟨_, rfl⟩
  have HN := Lib.hid hn
  obtain ⟨m, hm⟩ : ∃ m, S.length = m := ⟨_, rfl⟩
  have HM := Lib.hid hm
  rw [hm] at hrun hr v1
  rw [hn] at hr ⊢
  have hW7' := hW7
  rw [hm] at hW7'
  have HW7' := Lib.hid hW7'
  have n40 : n < 1099511627776 := by omega
  obtain ⟨nb, hnb⟩ : ∃ nb, w.heap.size = nb := ⟨_, rfl⟩
  have HNB := Lib.hid hnb
  have HW1' := HW1
  rw [hnb] at x1 d4 d5 H7 HW7'
  clear hrow hgrow o7 e2 k7 R1 v3 hW7 hW7' hW1 h hd hs hl hB g1 lth hn hm hnb
  go_enter Try.func45, Try.ntmps45
  go_wp2_with fail
  rw [HW1.out]
  try rw [HNB.out]
  go_cut [] from 10 to 21 (fun wx => wx = W7)
  case first =>
    go_region_law (refine step_ran4 rfl _ _ 46 rfl rfl rfl hrun ?_)
    all_goals (rw [HW7'.out]; go_wp2_with fail; go_meet; exact rfl)
  case rest =>
    have hc := hcut.symm
    clear hcut
    subst hc
    clear x1 d4 d5 hrun v1
    go_wp2_with fail
    go_loopg [6] n (fun gk s6 wr => ∃ i : Nat, s6 = .int .i64 i ∧ i ≤ n ∧ n - i ≤ gk ∧ Hid (∃ N, PutN B w wr nb S l i N))
    case atStart => exact ⟨0, rfl, Nat.zero_le _, Nat.le_refl _, S, H7.out⟩
    case round =>
      rename World => W2
      obtain ⟨i, rfl, hin, hgk, HR⟩ := hrel
      clear H7
      by_cases hi : i < n
      · have hi' : decide ((i : Int) < (n : Int)) = true := decide_eq_true (by omega)
        have hi3 : decide (i < n) = true := decide_eq_true hi
        have hiz : (i : Int) < (n : Int) := by omega
        have hi2 : i < l.length := by rw [HN.out]; exact hi
        obtain ⟨N, hP⟩ := HR.out
        have P := Lib.hid hP
        have LN : Hid (N.length = i + m) := by
          have := hP.len (by omega : i ≤ l.length)
          rw [HM.out] at this
          exact this
        have hs := hP.todo
        rw [drop_getD hi2] at hs
        have e1 := take_getD hi2
        rcases HH.out.2.2.1 with hz | ⟨g, o, rfl, hg, hc⟩
        · omega
        obtain ⟨⟨c1, c2⟩, hx⟩ := hc i hi2
        have HG : Hid (∀ W, Kept (fun _ => False) w W → W.cell? ⟨g, o + i * 2, none⟩ = some (.int .i64 (l.getD i (0, 0)).2) ∧ W.cell? ⟨g, o + i * 2 + 1, none⟩ = some (.int .i64 (l.getD i (0, 0)).1)) := fun W k => ⟨(k.cell (p := ⟨g, o + i * 2, none⟩) hg (fun x => x)).trans c1, (k.cell (p := ⟨g, o + i * 2 + 1, none⟩) hg (fun x => x)).trans c2⟩
        have STOP : Hid (∀ r : Int, r ≠ 0 → putR ((l.take i).reverse ++ S) (l.getD i (0, 0)) = r → putsR S l = r ∧ putsL S l = S) := fun r hr hp => by
          have he : putsR S l = r := by
            rw [hs]
            show (if putR _ _ = 0 then _ else _) = _
            rw [hp, if_neg hr]
          exact ⟨he, if_neg (by rw [he]; exact hr)⟩
        have OUT : Hid (∀ W, Kept (fun _ => False) w W → putsL S l = S → (∃ N, RefIs B W rf N ∧ Sorted N ∧ N.Perm (putsL S l)) ∧ Kept (fun k => k = rf) w W) := fun W k e => ⟨⟨S, HH.out.1.kept k (fun b o x _ => x.elim), HH.out.2.1, by rw [e]⟩, k.mono (fun _ _ x => x.elim)⟩
        have hpr := putR_has hP.perm (l.getD i (0, 0))
        have GO : Hid (∀ W, RefIs B W nb (layR (l.getD i (0, 0)) N) → Kept (fun k => k = nb) W2 W → putR ((l.take i).reverse ++ S) (l.getD i (0, 0)) = 0 → (∀ y ∈ N, y.1 ≠ (l.getD i (0, 0)).1) → ∃ N, PutN B w W nb S l (i + 1) N) := fun W r k hz hne => by
          refine ⟨layR (l.getD i (0, 0)) N, r, ?_, layR_sorted _ hP.sorted hne, layR_diff _ hP.diff hne, hP.kept.andThen k (fun j e => .inr (by have := HNB.out; omega)), ?_⟩
          · rw [e1]
            exact (layR_perm _ _).trans (hP.perm.cons _)
          · rw [e1, hs]
            show (if putR _ _ = 0 then _ else _) = _
            rw [if_pos hz]
            rfl
        obtain ⟨k1, k2⟩ := HG.out W2 hP.kept
        clear hc c1 c2 hs e1 hP HR hg hi2
        obtain ⟨x, hxx⟩ : ∃ x, l.getD i (0, 0) = x := ⟨_, rfl⟩
        rw [hxx] at k1 k2 STOP hpr GO hx HG
        clear hxx
        obtain ⟨id, t⟩ := x
        simp only [] at k1 k2 hpr hx HG
        by_cases b0 : id < 0
        · have d0 : decide (id < 0) = true := decide_eq_true b0
          obtain ⟨q1, q2⟩ := STOP.out 1 (by decide) (by rw [hpr, if_pos b0])
          have FIN := Lib.hid (OUT.out W2 P.out.kept q2)
          have Q1 := Lib.hid q1
          clear STOP OUT GO hpr q1 q2 P
          go_wp2
          go_ret
          exact ⟨by rw [Q1.out]; rfl, FIN.out⟩
        have d0 : decide (id < 0) = false := decide_eq_false b0
        rw [if_neg b0] at hpr
        have CT : Hid (Calls Try.prog 70 #[.int .i64 t] W2 fun e w' => e = .returned (.int .i64 (timeE t)) ∧ W2 = w') := rtime_any t W2
        by_cases b1 : timeE t = 0
        · rw [if_neg (by simp [b1])] at hpr
          rw [b1] at CT
          by_cases b2 : has N id = true
          · rw [if_pos b2] at hpr
            obtain ⟨q1, q2⟩ := STOP.out 15 (by decide) hpr
            obtain ⟨j, hj, hf⟩ := find_gen P.out.diff b2
            have CP := Lib.hid (refPut_there B W2 nb N (by have := LN.out; have := HH.out.2.2.2.2; omega) P.out.next id t b0 j hf)
            have FIN : Hid (∀ W, Grew W2 W → (∃ N, RefIs B W rf N ∧ Sorted N ∧ N.Perm (putsL S l)) ∧ Kept (fun k => k = rf) w W) := fun W g => OUT.out W (P.out.kept.trans (g.kept _)) q2
            have Q1 := Lib.hid q1
            clear STOP OUT GO hpr q1 q2 P hj hf
            go_wp2_with fail
            refine CT.out.mono ?_
            rintro E w3 ⟨rfl, rfl⟩
            go_wp2_with fail
            refine CP.out.mono ?_
            rintro E w3 ⟨rfl, g3⟩
            have F3 := Lib.hid (FIN.out w3 g3)
            clear g3 FIN CP CT k1 k2
            go_wp2
            go_ret
            exact ⟨by rw [Q1.out]; rfl, F3.out⟩
          · have b3 : has N id = false := by simpa using b2
            rw [if_neg b2] at hpr
            have CP := Lib.hid (refPut_new B W2 nb N (by have := LN.out; have := HH.out.2.2.2.2; rw [HM.out] at this; omega) (Nat.le_trans HH.out.2.2.2.1 P.out.kept.size) P.out.next id t b0 (find_not P.out.diff b3))
            have G4 : Hid (∀ W, RefIs B W nb (layR (id, t) N) → Kept (fun k => k = nb) W2 W → ∃ N, PutN B w W nb S l (i + 1) N) := fun W r k => GO.out W r k hpr (fun y hy => has_no.1 b3 y hy)
            clear STOP OUT GO hpr P b2 b3
            go_wp2_with fail
            refine CT.out.mono ?_
            rintro E w3 ⟨rfl, rfl⟩
            go_wp2_with fail
            refine CP.out.mono ?_
            rintro E w3 ⟨rfl, r3, k3⟩
            have H3 := Lib.hid (G4.out w3 r3 k3)
            clear r3 k3 G4 CP CT k1 k2
            go_wp2
            go_roundg (n - (i + 1))
            case measure => omega
            case rel => exact ⟨i + 1, by go_num, by omega, Nat.le_refl _, (show Hid _ from H3.out)⟩
        · rw [if_pos b1] at hpr
          obtain ⟨q1, q2⟩ := STOP.out (timeE t) b1 hpr
          have FIN := Lib.hid (OUT.out W2 P.out.kept q2)
          have Q1 := Lib.hid q1
          have d1 : (timeE t != 0) = true := by simpa using b1
          clear STOP OUT GO hpr q1 q2 P b1
          generalize timeE t = y at *
          go_wp2_with fail
          refine CT.out.mono ?_
          rintro E w3 ⟨rfl, rfl⟩
          go_wp2
          go_ret
          exact ⟨by rw [Q1.out]; rfl, FIN.out⟩
      · obtain rfl : i = n := by omega
        have hi' : decide ((i : Int) < (i : Int)) = false := decide_eq_false (by omega)
        have hi3 : decide (i < i) = false := decide_eq_false (by omega)
        obtain ⟨N, hP⟩ := HR.out
        have e : l.drop i = [] := List.drop_of_length_le (by rw [HN.out]; exact Nat.le_refl _)
        have e2 : l.take i = l := List.take_of_length_le (by rw [HN.out]; exact Nat.le_refl _)
        have hs := hP.todo
        rw [e] at hs
        have hs : putsR S l = 0 := hs
        have hp := hP.perm
        rw [e2] at hp
        have hm : putsL S l = l.reverse ++ S := if_pos hs
        obtain ⟨an, cn, n1, n2⟩ := hP.next
        obtain ⟨ar, cr, r1, r2⟩ := HH.out.1
        have rlt : rf < w.heap.size := (Array.getElem?_eq_some_iff.1 r1).1
        have r3 := (hP.kept.block rf rlt (fun x => x)).trans r1
        obtain ⟨nl, hnl⟩ : ∃ nl, N.length = nl := ⟨_, rfl⟩
        rw [hnl] at n1 n2
        have kk : Kept (fun k => k = rf) w W2 := hP.kept.mono (fun _ _ x => x.elim)
        have FIN : Hid ((∃ N, RefIs B (W2.setCell ⟨rf, 0, none⟩ (.slice an nl cn)) rf N ∧ Sorted N ∧ N.Perm (putsL S l)) ∧ Kept (fun k => k = rf) w (W2.setCell ⟨rf, 0, none⟩ (.slice an nl cn))) :=
          ⟨⟨N, ref_store r3 hnl.symm n2, hP.sorted, by rw [hm]; exact hp⟩, kk.setCell (p := ⟨rf, 0, none⟩) (.inl rfl) _⟩
        have c1 : W2.cell? ⟨nb, 0, none⟩ = some (.slice an nl cn) := by simp [World.cell?, n1]
        have c2 : W2.cell? ⟨rf, 0, none⟩ = some (.slice ar S.length cr) := by simp [World.cell?, r3]
        have c3 : W2.frozen? ⟨rf, 0, none⟩ = false := by simp [World.frozen?, r3]
        have Q1 := Lib.hid hs
        clear hP hs hp hm n1 n2 r1 r2 r3 e e2 HR hnl kk
        go_wp2
        go_ret
        exact ⟨by rw [Q1.out]; rfl, FIN.out⟩
end Go.Proofs.Ytcipilggddpnpaa
