/-
  Several texts as one.
-/
import Derived.Test.YtpglkakbiaihdaaQx1
import Derived.Test.YtpglkakbiaihdaaTx1
import Derived.Laws.EntriesVeiled
import Derived.Test.YtpglkakbiaihdaaTx2
import Derived.Deep.LoopGhost
import Derived.Deep.Cut
import Derived.Deep.SlicePairs
import Derived.Deep.Strs
import Derived.ChangeSame
import Derived.ChangeArms
import Derived.Deep.RegionHeld3
/-
  ready.Queue: Until; timers.Queue: Armed, for a range over either.
-/
namespace Go.Proofs.Ytpglkakbiaihdaa
open Go.RowKit Go.Sort Go.Shelf Go.Maps
set_option linter.unusedVariables false
set_option linter.unusedSimpArgs false
attribute [local go_sem] Oper.semAt_some

theorem seqAt_grew {B c : Nat} {S : List K.Ent} {w w' : World} (h : K.SeqAt B c S w) (g : Grew w w') : K.SeqAt B c S w' := by
  obtain ⟨hB, rv, hcell, hrv⟩ := h
  refine ⟨hB, rv, (g.block (Array.getElem?_eq_some_iff.1 hcell).1).trans hcell, ?_⟩
  rcases hrv with h | ⟨rb, cap, h1, h2, h3, h4⟩
  · exact .inl h
  · exact .inr ⟨rb, cap, h1, h2, h3, h4.kept (g.block h4.lt)⟩
theorem SeqOwn.later {P : Program} {gf : Nat} {lb : Array Value} {encs : Nat → Array Value} {F : Nat → Prop} {c N : Nat} {w w' : World} (h : SeqOwn P gf lb encs F c N w) (b : Below w.heap.size w w') : SeqOwn P gf lb encs F c N w' :=
  fun l J Jx W hW => h l J Jx W (b.trans (hW.mono b.size))

set_option maxHeartbeats 1000000 in
set_option maxRecDepth 20000 in
theorem quntil_any {B : Nat} {w : World} {q : QB} {L T : List Ent} (h : Qs B w q L) (hT : T.Perm L) (hs : Sorted T) (hd : T.Pairwise (fun x y => x.1 ≠ y.1)) (hl : T.length < 1099511627776) (t : Int) :
    Calls Try.prog 24 #[.pointer (some ⟨q.qb, 0, none⟩), .int .i64 t] w fun E w' => ∃ cu ct F, E = .returned (.func (.func 70) #[] #[.pointer (some ⟨cu, 0, none⟩), .pointer (some ⟨ct, 0, none⟩)]) ∧ SeqOwn Try.prog 70 #[.pointer (some ⟨cu, 0, none⟩), .pointer (some ⟨ct, 0, none⟩)] (enU T) F 1 (untilN t T) w' ∧ (∀ k, F k → w.heap.size ≤ k ∧ k < w'.heap.size) ∧ Kept (fun _ => False) w w' := by
  obtain ⟨W0, hW0⟩ : ∃ W0, w.alloc (.cells #[.int .i64 t] 3) = W0 := ⟨_, rfl⟩
  have g0 : Grew w W0 := by rw [← hW0]; exact (Grew.refl w).alloc _
  have b0 : W0.heap[w.heap.size]? = some (.cells #[.int .i64 t] 3 (0, 0)) := by rw [← hW0]; exact heap_alloc_new _ _
  have C1 := Lib.hid (fromFirst_any (h.grew g0))
  have C2 := Lib.hid (up_all ((h.grew g0).perm hT.symm).up hd hs)
  have H0 : Hid (Grew w W0 ∧ W0.heap[w.heap.size]? = some (.cells #[.int .i64 t] 3 (0, 0))) := ⟨g0, b0⟩
  have HW := Lib.hid hW0
  clear h hT hs hd g0 b0 hW0
  go_enter Try.func24, Try.ntmps24
  go_wp2_with fail
  rw [HW.out]
  refine C1.out.mono ?_
  rintro e W1' ⟨rfl, rfl⟩
  go_wp2_with fail
  refine C2.out.mono ?_
  rintro e W1 ⟨rfl, hseq, hk⟩
  obtain ⟨W3, hW3⟩ : ∃ W3, W1.alloc (.cells #[.func (.func 103) #[] #[.pointer (some ⟨W0.heap.size, 0, none⟩)]] 116) = W3 := ⟨_, rfl⟩
  have HF : Hid (∃ F, SeqOwn Try.prog 70 #[.pointer (some ⟨W1.heap.size, 0, none⟩), .pointer (some ⟨w.heap.size, 0, none⟩)] (enU T) F 1 (untilN t T) W3 ∧ (∀ k, F k → w.heap.size ≤ k ∧ k < W3.heap.size) ∧ Kept (fun _ => False) w W3) := by
    obtain ⟨g0, b0⟩ := H0.out
    have g3 : Grew W1 W3 := by rw [← hW3]; exact (Grew.refl W1).alloc _
    have e3 : W3.heap[W1.heap.size]? = some (.cells #[.func (.func 103) #[] #[.pointer (some ⟨W0.heap.size, 0, none⟩)]] 116 (0, 0)) := by rw [← hW3]; exact heap_alloc_new _ _
    have hlt : w.heap.size < W0.heap.size := (Array.getElem?_eq_some_iff.1 b0).1
    have b3 : W3.heap[w.heap.size]? = some (.cells #[.int .i64 t] 3 (0, 0)) := (g3.block (Nat.lt_of_lt_of_le hlt hk.size)).trans ((hk.block _ hlt (fun x => x)).trans b0)
    have sq := seqAt_grew hseq g3
    have hcl : W0.heap.size < W3.heap.size := by
      obtain ⟨_, rv, hcell, _⟩ := sq
      exact (Array.getElem?_eq_some_iff.1 hcell).1
    obtain ⟨rb, r1, r2, ho⟩ := until_own (by omega) sq (Array.getElem?_eq_some_iff.1 e3).1 (by simp [World.cell?, e3]) b3
    refine ⟨_, ho, fun k hk' => ?_, (g0.kept _).trans (hk.trans (g3.kept _))⟩
    have z := g0.size
    have z2 := hk.size
    have z3 := g3.size
    rcases hk' with rfl | rfl | rfl
    · exact ⟨z, hcl⟩
    · exact ⟨by omega, r2⟩
    · exact ⟨Nat.le_refl _, by omega⟩
  have HW3 := Lib.hid hW3
  clear hseq hk C1 C2 H0 HW hW3
  go_wp2
  refine bodyPost_ret (v := .func (.func 70) #[] #[.pointer (some ⟨W1.heap.size, 0, none⟩), .pointer (some ⟨w.heap.size, 0, none⟩)]) (by simp [results, Try.f24, go_sem]) rfl ?_
  rw [HW3.out]
  obtain ⟨F, f1, f2, f3⟩ := HF.out
  exact ⟨_, _, F, rfl, f1, f2, f3⟩

/-- What Armed's yield is handed in round k. -/
def enA (T : List Ent) (k : Nat) : Array Value := #[.int .i64 (T.getD k (0, 0)).1, .int .i64 (T.getD k (0, 0)).2]

set_option maxHeartbeats 2000000 in
set_option maxRecDepth 100000 in
theorem armed_own {T : List Ent} {N : Nat} {w : World} {F : Nat → Prop} {cu ct cv : Nat} (hall : SeqOwn Try.prog 70 #[.pointer (some ⟨cu, 0, none⟩), .pointer (some ⟨ct, 0, none⟩)] (enU T) F 1 N w) (hcv : cv < w.heap.size)
    (hu : w.cell? ⟨cv, 0, none⟩ = some (.func (.func 70) #[] #[.pointer (some ⟨cu, 0, none⟩), .pointer (some ⟨ct, 0, none⟩)])) :
    SeqOwn Try.prog 85 #[.pointer (some ⟨cv, 0, none⟩)] (enA T) F 4 N w := by
  intro l J Jx W hW hJ hJx hY h0
  obtain ⟨W1, hW1⟩ : ∃ W1, W.alloc (.cells #[.func (.yield l) #[] #[]] 27) = W1 := ⟨_, rfl⟩
  have gW : Grew W W1 := by rw [← hW1]; exact (Grew.refl W).alloc _
  have y1 : W1.heap[W.heap.size]? = some (.cells #[.func (.yield l) #[] #[]] 27 (0, 0)) := by rw [← hW1]; exact heap_alloc_new _ _
  have j1 : J 0 W1 := by rw [← hW1]; exact hJ.alloc _ h0
  have z1 : W1.heap.size = W.heap.size + 1 := by rw [← hW1]; simp
  have b1 : Below w.heap.size w W1 := hW.trans (gW.below.mono hW.size)
  have u1 : W1.cell? ⟨cv, 0, none⟩ = some (.func (.func 70) #[] #[.pointer (some ⟨cu, 0, none⟩), .pointer (some ⟨ct, 0, none⟩)]) := (b1.cell (p := ⟨cv, 0, none⟩) hcv).trans hu
  obtain ⟨sb, hsb⟩ : ∃ sb, W.heap.size = sb := ⟨_, rfl⟩
  rw [hsb] at y1 z1 hY
  have hoI : OwnFrom W1.heap.size (fun (k : Nat) V => J k V ∧ V.heap[sb]? = some (.cells #[.func (.yield l) #[] #[]] 27 (0, 0)) ∧ W1.heap.size ≤ V.heap.size) := by
    rintro s A A' row ⟨h2, h3, h5⟩ hg hr
    have keep : ∀ (j : Nat) (o : Obj), A.heap[j]? = some o → j < W1.heap.size → A'.heap[j]? = some o := fun j o q1 q2 => (hg.block j (Array.getElem?_eq_some_iff.1 q1).1 (fun e => by have := (hr _ e.symm).1; omega)).trans q1
    exact ⟨(ownFrom_mono hJ (by omega)) s A A' row h2 hg hr, keep _ _ h3 (by omega), Nat.le_trans h5 hg.size⟩
  have H0 : J 0 W1 ∧ W1.heap[sb]? = some (.cells #[.func (.yield l) #[] #[]] 27 (0, 0)) ∧ W1.heap.size ≤ W1.heap.size := ⟨j1, y1, Nat.le_refl _⟩
  have HJ : Hid (OwnFrom W.heap.size J ∧ OwnFrom W.heap.size Jx ∧ W1.heap.size = W.heap.size + 1) := ⟨hJ, hJx, by omega⟩
  have HW := Lib.hid hW1
  have HY := Lib.hid hY
  clear hW1 gW y1 j1 hu h0 hJ hJx hY hW
  refine callsIn_wide.2 ?_
  show Calls Try.prog 85 #[.func (.yield l) #[] #[], .pointer (some ⟨cv, 0, none⟩)] W _
  refine calls_marks Try.func85 rfl ?_
  simp only [Try.ntmps85, List.size_toArray, List.length_cons, List.length_nil, Nat.reduceAdd, Nat.reduceSub, Array.replicate_succ, Array.replicate_zero, List.push_toArray, List.append_toArray, List.nil_append, List.cons_append]
  go_upto_region 1 with (fail)
  rw [HW.out]
  try rw [hsb]
  go_wp2_with fail
  refine wp_rangeOwn (gf := 70) (lb := #[.pointer (some ⟨cu, 0, none⟩), .pointer (some ⟨ct, 0, none⟩)]) (encs := enU T) (F := F) (c := 1) (N := N) (w0 := w) ?hg ?eg hall b1 ?ps (fun (k : Nat) V => J k V ∧ V.heap[sb]? = some (.cells #[.func (.yield l) #[] #[]] 27 (0, 0)) ∧ W1.heap.size ≤ V.heap.size) (fun c k V => c = .ret ∧ k < N ∧ Jx k V) hoI ?hix H0 ?round ?done ?stop
  case hg => rfl
  case eg => exact enters_of Try.func70 (by kernel_rfl) rfl
  case ps => exact fun _ => rfl
  case hix =>
    rintro c s A A' row ⟨h1, h2, h3⟩ hg hr
    exact ⟨h1, h2, (ownFrom_mono HJ.out.2.1 (by have := HJ.out.2.2; omega)) s A A' row h3 hg hr⟩
  case round =>
    intro l2 k Wk hks hi hz
    have hsz := hi.2.2
    have YY := HY.out k
    unfold enA at YY
    unfold enU
    generalize T.getD k (0, 0) = x at *
    obtain ⟨id, tm⟩ := x
    simp only [] at YY ⊢
    gi_wp2
    obtain ⟨W2, hW2⟩ : ∃ W2, Wk.alloc (.cells #[.int .i64 tm, .int .i64 id] 37) = W2 := ⟨_, rfl⟩
    have g2 : Grew Wk W2 := by rw [← hW2]; exact (Grew.refl Wk).alloc _
    have hi2 := hoI.alloc (.cells #[.int .i64 tm, .int .i64 id] 37) hi
    rw [hW2] at hi2
    have kb2 : W2.heap[Wk.heap.size]? = some (.cells #[.int .i64 tm, .int .i64 id] 37 (0, 0)) := by rw [← hW2]; exact heap_alloc_new _ _
    have s2 : Wk.heap.size ≤ W2.heap.size := g2.size
    rw [hW2]
    refine ⟨(g2.kept (fun _ => False)).from _ (fun _ x => x.elim), fun j o _ h _ => (g2.block (Array.getElem?_eq_some_iff.1 h).1).trans h, fun Wb hbz => ?_⟩
    have hi3 := hbz.own hoI hi2
    have kb3 : Wb.heap[Wk.heap.size]? = some (.cells #[.int .i64 tm, .int .i64 id] 37 (0, 0)) := hbz.own (s := 0) (cells_own rfl) kb2
    have klt := (Array.getElem?_eq_some_iff.1 kb3).1
    obtain ⟨h1, h2, h4⟩ := hi3
    have c1 : Wb.cell? ⟨sb, 0, none⟩ = some (.func (.yield l) #[] #[]) := by simp [World.cell?, h2]
    have c3 : Wb.cell? ⟨Wk.heap.size, 0, none⟩ = some (.int .i64 tm) := by simp [World.cell?, kb3]
    have c4 : Wb.cell? ⟨Wk.heap.size, 1, none⟩ = some (.int .i64 id) := by simp [World.cell?, kb3]
    obtain ⟨fn, tmps, assign, body, hy, hR⟩ := YY Wb hks h1 (by omega)
    have HH : Hid (Wb.heap[sb]? = some (.cells #[.func (.yield l) #[] #[]] 27 (0, 0)) ∧ W1.heap.size ≤ Wb.heap.size) := ⟨h2, h4⟩
    obtain ⟨kb, hkb⟩ : ∃ kb, Wk.heap.size = kb := ⟨_, rfl⟩
    rw [hkb] at c3 c4 ⊢
    clear h1 h2 h4 hi2 kb2 kb3 hi g2 hbz hW2 H0 YY hoI
    gi_wp2
    refine (RoundIn.any hR).mono ?_
    rintro e W3 ⟨kf, (⟨rfl, hJ3, hk3⟩ | ⟨rfl, hJx3⟩)⟩
    · have HF : Hid (KeepsFrom W1.heap.size Wb W3 ∧ KeepB F 1 (W1.heap.size + 2) Wb W3 ∧ J (k + 1) W3 ∧ W3.heap[sb]? = some (.cells #[.func (.yield l) #[] #[]] 27 (0, 0)) ∧ W1.heap.size ≤ W3.heap.size) := by
        refine ⟨keeps_mono kf (by omega), hk3.mono (fun j hj => ?_), hJ3, hk3 sb _ (.inr (by omega)) HH.out.1 rfl, Nat.le_trans HH.out.2 kf.size⟩
        rcases hj with e | e
        · exact .inl e
        · exact .inr (by omega)
      clear kf hJ3 hk3 HH hR hy
      gi_wp2
      exact HF.out
    · have HF : Hid (KeepsFrom W1.heap.size Wb W3 ∧ Jx k W3) := ⟨keeps_mono kf (by omega), hJx3⟩
      clear kf hJx3 HH hR hy
      gi_wp2
      exact ⟨HF.out.1, rfl, hks, HF.out.2⟩
  case done =>
    intro D W5 hD hi hdef
    have hj : J N (W5.putObj D (.deferred none)) := HJ.out.1.putObj _ hi.1 (by have := HJ.out.2.2; omega) hdef rfl
    have HF := Lib.hid hj
    clear hi hj hoI H0 HY
    go_wp2_with fail
    refine leave_one hdef ⟨.tuple #[], by simp [results, Try.f85, go_sem], ⟨_, rfl⟩, .inl HF.out⟩
  case stop =>
    intro D c k W5 hD hks hx hdef
    obtain ⟨rfl, _, hx⟩ := hx
    have hj := HJ.out.2.1.putObj (.deferred none) hx (by have := HJ.out.2.2; omega) hdef rfl
    have HF := Lib.hid hj
    clear hx hj hoI H0 HY
    go_wp2_with fail
    refine leave_one hdef ⟨.tuple #[], by simp [results, Try.f85, go_sem], ⟨_, rfl⟩, .inr ⟨k, hks, HF.out⟩⟩

theorem untilN_all (t : Int) : ∀ T : List Ent, (∀ x ∈ T, x.2 ≤ t) → untilN t T = T.length
  | [], _ => rfl
  | x :: r, h => by
    unfold untilN
    rw [if_pos (h x List.mem_cons_self), untilN_all t r (fun y hy => h y (List.mem_cons_of_mem _ hy))]
    rfl

set_option maxHeartbeats 1000000 in
set_option maxRecDepth 20000 in
theorem tarmed_any {B : Nat} {w : World} {tb : Nat} {q : QB} {m n o : Int} {L T : List Ent} (h : Ts B w tb q m n o L) (hT : T.Perm L) (hs : Sorted T) (hl : T.length < 1099511627776) :
    Calls Try.prog 48 #[.pointer (some ⟨tb, 0, none⟩)] w fun E w' => ∃ cv F, E = .returned (.func (.func 85) #[] #[.pointer (some ⟨cv, 0, none⟩)]) ∧ SeqOwn Try.prog 85 #[.pointer (some ⟨cv, 0, none⟩)] (enA T) F 4 T.length w' ∧ (∀ k, F k → w.heap.size ≤ k ∧ k < w'.heap.size) ∧ Kept (fun _ => False) w w' := by
  have hd : T.Pairwise (fun x y => x.1 ≠ y.1) := (List.Perm.pairwise_iff (R := fun x y : Ent => x.1 ≠ y.1) (fun h => h.symm) hT).2 h.diff
  have hN : untilN 1099511627776 T = T.length := untilN_all _ T (fun x hx => by have := timeE_may5 (h.good x (hT.mem_iff.1 hx)).1.2; omega)
  have C1 := Lib.hid (byTime_any h)
  have C2 := Lib.hid (quntil_any h.queue hT hs hd hl 1099511627776)
  rw [hN] at C2
  clear h hT hs hd hN
  go_enter Try.func48, Try.ntmps48
  go_wp2_with fail
  refine C1.out.mono ?_
  rintro e W1' ⟨rfl, rfl⟩
  go_wp2_with fail
  refine C2.out.mono ?_
  rintro e W1 ⟨cu, ct, F, rfl, hseq, hF, hk⟩
  obtain ⟨W3, hW3⟩ : ∃ W3, W1.alloc (.cells #[.func (.func 70) #[] #[.pointer (some ⟨cu, 0, none⟩), .pointer (some ⟨ct, 0, none⟩)]] 53) = W3 := ⟨_, rfl⟩
  have HF : Hid (SeqOwn Try.prog 85 #[.pointer (some ⟨W1.heap.size, 0, none⟩)] (enA T) F 4 T.length W3 ∧ (∀ k, F k → w.heap.size ≤ k ∧ k < W3.heap.size) ∧ Kept (fun _ => False) w W3) := by
    have g3 : Grew W1 W3 := by rw [← hW3]; exact (Grew.refl W1).alloc _
    have e3 : W3.heap[W1.heap.size]? = some (.cells #[.func (.func 70) #[] #[.pointer (some ⟨cu, 0, none⟩), .pointer (some ⟨ct, 0, none⟩)]] 53 (0, 0)) := by rw [← hW3]; exact heap_alloc_new _ _
    exact ⟨armed_own (hseq.later g3.below) (Array.getElem?_eq_some_iff.1 e3).1 (by simp [World.cell?, e3]), fun k hk' => ⟨(hF k hk').1, Nat.lt_of_lt_of_le (hF k hk').2 g3.size⟩, hk.trans (g3.kept _)⟩
  have HW3 := Lib.hid hW3
  clear hseq hF hk C1 C2 hW3
  go_wp2
  refine bodyPost_ret (v := .func (.func 85) #[] #[.pointer (some ⟨W1.heap.size, 0, none⟩)]) (by simp [results, Try.f48, go_sem]) rfl ?_
  rw [HW3.out]
  exact ⟨_, F, rfl, HF.out⟩
end Go.Proofs.Ytpglkakbiaihdaa

/-
  The law's same, of timers: both hold the same.
-/
namespace Go.Proofs.Ytpglkakbiaihdaa
open Go.RowKit Go.Shelf Go.Maps
set_option linter.unusedVariables false
set_option linter.unusedSimpArgs false
attribute [local go_sem] Oper.semAt_some

theorem first_of {S : List Ent} (hs : Sorted S) (h0 : 0 < S.length) : IsFirst S (S.getD 0 (0, 0)) := by
  cases S with
  | nil => simp at h0
  | cons x r =>
    refine ⟨List.mem_cons_self, fun y hy hne => ?_⟩
    rcases List.mem_cons.1 hy with rfl | hy
    · exact absurd rfl hne
    · exact (List.pairwise_cons.1 hs).1 y hy
/-- Next, whatever there is. -/
theorem tnext_gen {B : Nat} {w : World} {tb : Nat} {q : QB} {m n o : Int} {S : List Ent} (h : Ts B w tb q m n o S) (hs : Sorted S) (a e : Int) (ha : if S.length = 0 then a = 0 ∧ e = 14 else a = (S.getD 0 (0, 0)).2 ∧ e = 0) :
    Calls Try.prog 49 #[.pointer (some ⟨tb, 0, none⟩)] w fun E w' => E = .returned (.tuple #[.int .i64 a, .int .i64 e]) ∧ Grew w w' := by
  by_cases h0 : S.length = 0
  · rw [if_pos h0] at ha
    obtain ⟨rfl, rfl⟩ := ha
    obtain rfl : S = [] := List.length_eq_zero_iff.1 h0
    exact tnext_nil h
  · rw [if_neg h0] at ha
    obtain ⟨rfl, rfl⟩ := ha
    exact tnext_any h _ (first_of hs (by omega))
theorem grewD5 (w : World) (n : Nat) : Grew w (w.drewN n) := grewN w n

set_option maxHeartbeats 4000000 in
set_option maxRecDepth 100000 in
theorem same5_any {B : Nat} {W : World} {tb : Nat} {q : QB} {m n o : Int} {rq rh : Nat} {S : List Ent} (h : Pt B W tb q m n o rq rh S) (hl : S.length < 1099511627776) :
    Calls Try.prog 41 #[.pointer (some ⟨tb, 0, none⟩), .pointer (some ⟨rq, 0, none⟩)] W fun e w' => e = .returned (.bool true) ∧ Kept (fun _ => False) W w' := by
  have mixed : Try.prog.follows .mixedOrders = true := by kernel_rfl
  have hnf : ∀ (f : Fn) (b c : Array Value) (w : World), (binOp .eql 34 (.func f b c) Value.nilFunc).run Try.prog w = .ok (.bool false) w := fun _ _ _ _ => rfl
  obtain ⟨W3, hW3⟩ : ∃ W3, ((W.alloc (.cells #[.pointer (some ⟨rq, 0, none⟩)] 71)).alloc (.cells #[.bool false] 4)).alloc (.cells #[.int .i64 0] 3) = W3 := ⟨_, rfl⟩
  have g3 : Grew W W3 := by rw [← hW3]; exact (((Grew.refl W).alloc _).alloc _).alloc _
  have z3 : W3.heap.size = W.heap.size + 3 := by rw [← hW3]; simp
  have b0 : W3.heap[W.heap.size]? = some (.cells #[.pointer (some ⟨rq, 0, none⟩)] 71 (0, 0)) := by
    rw [← hW3, Below.heap_alloc _ _ _ (by simp; omega), Below.heap_alloc _ _ _ (by simp)]; exact heap_alloc_new _ _
  have b1 : W3.heap[W.heap.size + 1]? = some (.cells #[.bool false] 4 (0, 0)) := by
    rw [← hW3, Below.heap_alloc _ _ _ (by simp)]
    have := heap_alloc_new (W.alloc (.cells #[.pointer (some ⟨rq, 0, none⟩)] 71)) (.cells #[.bool false] 4)
    simpa using this
  have b2 : NumAt W3 (W.heap.size + 1 + 1) 0 := by
    unfold NumAt
    rw [← hW3]
    have := heap_alloc_new ((W.alloc (.cells #[.pointer (some ⟨rq, 0, none⟩)] 71)).alloc (.cells #[.bool false] 4)) (.cells #[.int .i64 0] 3)
    simpa using this
  have C := Lib.hid (tarmed_any (h.ts.grew g3) (List.Perm.refl S) h.sorted hl)
  have HW := Lib.hid hW3
  have HB := Lib.hid (And.intro b0 (And.intro b1 b2))
  have Z3 := Lib.hid z3
  have G3 := Lib.hid g3
  clear hW3 b0 b1 b2 z3 g3
  refine calls_marks Try.func41 rfl ?_
  simp only [Try.ntmps41, List.size_toArray, List.length_cons, List.length_nil, Nat.reduceAdd, Nat.reduceSub, Array.replicate_succ, Array.replicate_zero, List.push_toArray, List.append_toArray, List.nil_append, List.cons_append]
  go_wp2_with fail
  rw [HW.out]
  refine C.out.mono ?_
  rintro e W4 ⟨cv, F, rfl, hseq, hF, hk⟩
  have K4 := Lib.hid hk
  have zz : W.heap.size + 1 + 1 < W4.heap.size := by have := K4.out.size; have := Z3.out; omega
  have hc3 : W3.heap.size = W.heap.size + 3 := Z3.out
  have HF : Hid (∀ j, F j → W.heap.size + 3 ≤ j) := fun j hj => by have := hF j hj; omega
  have facts : ∀ k Wk, CntI W4 (W.heap.size + 1 + 1) k Wk → (Wk.cell? ⟨W.heap.size + 1 + 1, 0, none⟩ = some (.int .i64 k) ∧ Wk.frozen? ⟨W.heap.size + 1 + 1, 0, none⟩ = false) ∧ Wk.cell? ⟨W.heap.size, 0, none⟩ = some (.pointer (some ⟨rq, 0, none⟩)) ∧
      Wk.heap[W.heap.size + 1]? = some (.cells #[.bool false] 4 (0, 0)) ∧ Pt B Wk tb q m n o rq rh S := fun k Wk hi => by
    have k34 : Kept (fun i => i = W.heap.size + 1 + 1) W3 Wk := (K4.out.mono (fun _ _ x => x.elim)).trans hi.1
    have e0 := (k34.block W.heap.size (by omega) (by omega)).trans HB.out.1
    have e1 := (k34.block (W.heap.size + 1) (by omega) (by omega)).trans HB.out.2.1
    exact ⟨hi.2.cell, by simp [World.cell?, e0], e1, h.lies ((G3.out.below.trans ((k34.below (B := W.heap.size) (by omega) (fun i e => by omega)))))⟩
  have FF := Lib.hid facts
  have N4 : NumAt W4 (W.heap.size + 1 + 1) 0 := (K4.out.block _ (by omega) (fun x => x)).trans HB.out.2.2
  have hoI := cntI_own zz
  have HS := Lib.hid h.sorted
  clear hk C facts hc3 hF h
  go_wp2_with fail
  refine wp_rangeOwn (gf := 85) (lb := #[.pointer (some ⟨cv, 0, none⟩)]) (encs := enA S) (F := F) (c := 4) (N := S.length) (w0 := W4) ?hg ?eg hseq (Below.refl _ _) ?ps (CntI W4 (W.heap.size + 1 + 1)) (fun _ _ _ => False) hoI ?hix ⟨Kept.refl _ _, N4⟩ ?round ?done ?stop
  case hg => rfl
  case eg => exact enters_of Try.func85 (by kernel_rfl) rfl
  case ps => exact fun _ => rfl
  case hix => exact fun c s A B row hs _ _ => hs
  case stop => intro D c k W5 _ _ hx; exact hx.elim
  case round =>
    intro l k Wk hks hi _
    obtain ⟨x, hx⟩ : ∃ x, S.getD k (0, 0) = x := ⟨_, rfl⟩
    have HX := Lib.hid hx
    unfold enA
    rw [hx]
    clear hx
    obtain ⟨ki, ky⟩ := x
    simp only []
    gi_wp2
    refine ⟨KeepsFrom.refl _ _, KeepB.refl _ _ _ _, fun Wb hbz => ?_⟩
    have hi2 := hbz.own hoI hi
    obtain ⟨⟨c1, c2⟩, c3, _, hpr⟩ := FF.out k Wb hi2
    obtain ⟨_, c7, _, _⟩ := hpr.rf.cells
    obtain ⟨g, cap, hrf, hrow, hcap⟩ := hpr.rf.ref.row (by omega)
    have c4 : Wb.cell? ⟨rh, 0, none⟩ = some (.slice (some ⟨g, 0, none⟩) S.length cap) := by simp [World.cell?, hrf]
    have c5 := hrow.2 _ _ (flatR_get S k hks).1
    have c6 := hrow.2 _ _ (flatR_get S k hks).2
    unfold rky at c5
    unfold rid at c6
    have HI2 := Lib.hid hi2
    have hkz : (k : Int) < (S.length : Int) := by omega
    have hkd : decide ((k : Int) ≥ (S.length : Int)) = false := decide_eq_false (by omega)
    have hkd2 : decide (S.length ≤ k) = false := decide_eq_false (by omega)
    have q4 : IntKind.i64.wrap ((k : Int) + 1) = (k : Int) + 1 := by rw [IntKind.wrap_i64]; omega
    clear hi hi2 hpr hrf hrow FF hoI N4 hseq
    rw [HX.out] at c5 c6
    simp only [] at c5 c6
    have m1 : (ki != ki) = false := by simp
    have m2 : (ky != ky) = false := by simp
    gi_wp2
    refine region_quiet_round_lit l (by kernel_rfl) mixed (by kernel_rfl) ?_
    repeat (gi_big_quiet_step (fail))
    refine wpQuietIn_nil ?_
    intro _ hw'
    obtain ⟨nq, hw''⟩ := hw'
    subst hw''
    gi_wp2
    have HK : Kept (fun i => i = W.heap.size + 1 + 1) Wb ((Wb.drewN nq).setCell ⟨W.heap.size + 1 + 1, 0, none⟩ (.int .i64 ((k : Int) + 1))) := (((grewN Wb nq).kept (fun i => i = W.heap.size + 1 + 1)).setCell (p := ⟨W.heap.size + 1 + 1, 0, none⟩) (.inl rfl) _)
    refine ⟨HK.from _ (fun i e => by rw [e]; exact zz), fun j ob hj ho _ => (HK.block j (Array.getElem?_eq_some_iff.1 ho).1 (fun e => ?_)).trans ho, ?_⟩
    · rcases hj with hj | hj
      · have := HF.out j hj; omega
      · omega
    · exact (HI2.out.grew zz (grewN Wb nq)).next
  case done =>
    intro D W5 hD hi hdef
    have HI5 := Lib.hid hi
    obtain ⟨_, _, _, hpr⟩ := FF.out _ W5 hi
    obtain ⟨a, e, hae⟩ : ∃ a e : Int, if S.length = 0 then a = 0 ∧ e = 14 else a = (S.getD 0 (0, 0)).2 ∧ e = 0 := by
      by_cases h0 : S.length = 0
      · exact ⟨0, 14, by rw [if_pos h0]; exact ⟨rfl, rfl⟩⟩
      · exact ⟨_, 0, by rw [if_neg h0]; exact ⟨rfl, rfl⟩⟩
    have CN := Lib.hid (tnext_gen hpr.ts HS.out a e hae)
    have FX : Hid (∀ W', Below W5.heap.size W5 W' → (W'.cell? ⟨W.heap.size + 1 + 1, 0, none⟩ = some (.int .i64 S.length) ∧ W'.cell? ⟨W.heap.size, 0, none⟩ = some (.pointer (some ⟨rq, 0, none⟩))) ∧ W'.heap[W.heap.size + 1]? = some (.cells #[.bool false] 4 (0, 0)) ∧ Pt B W' tb q m n o rq rh S ∧ W'.heap[D]? = some (.deferred (some [])) ∧ Kept (fun _ => False) W W') := fun W' b => by
      obtain ⟨⟨c1, _⟩, c3, c7, hp⟩ := FF.out _ W5 hi
      have z3 := Z3.out
      have k5 : Kept (fun _ => False) W W5 := ((G3.out.kept _).trans K4.out).andThen hi.1 (fun i e => .inr (by omega))
      exact ⟨⟨keep1' c1 b, keep1' c3 b⟩, (b.block _ (Array.getElem?_eq_some_iff.1 c7).1).trans c7, hp.lies b, (b.block _ (Array.getElem?_eq_some_iff.1 hdef).1).trans hdef, k5.trans (kept_lies b)⟩
    clear hi hpr FF hoI N4 hseq HI5
    go_wp2_with fail
    refine CN.out.mono ?_
    rintro E W6 ⟨rfl, g6⟩
    have FY : Hid (∀ k, ((W6.drewN k).cell? ⟨W.heap.size + 1 + 1, 0, none⟩ = some (.int .i64 S.length) ∧ (W6.drewN k).cell? ⟨W.heap.size, 0, none⟩ = some (.pointer (some ⟨rq, 0, none⟩))) ∧ (W6.drewN k).heap[W.heap.size + 1]? = some (.cells #[.bool false] 4 (0, 0)) ∧ Pt B (W6.drewN k) tb q m n o rq rh S ∧ (W6.drewN k).heap[D]? = some (.deferred (some [])) ∧ Kept (fun _ => False) W (W6.drewN k)) := fun k =>
      FX.out _ (g6.below.trans ((grewN W6 k).below.mono g6.size))
    obtain ⟨⟨c1, c3⟩, c7, hp6, hd6, k6⟩ := FX.out W6 g6.below
    obtain ⟨d0, d1, d2, d3⟩ := hp6.rf.cells
    obtain ⟨ra, rcap, hrf, hrow2⟩ := hp6.rf.ref.at
    have c8 : W6.cell? ⟨W.heap.size + 1, 0, none⟩ = some (.bool false) := by simp [World.cell?, c7]
    have c9 : W6.frozen? ⟨W.heap.size + 1, 0, none⟩ = false := by simp [World.frozen?, c7]
    have CN5 : ∀ k, Hid (Calls Try.prog 47 #[.pointer (some ⟨tb, 0, none⟩)] (W6.drewN k) fun e w' => e = .returned (.int .i64 n) ∧ W6.drewN k = w') := fun k => tnow_any (FY.out k).2.2.1.ts
    have CW5 : ∀ k, Hid (Calls Try.prog 78 #[.pointer (some ⟨tb, 0, none⟩)] (W6.drewN k) fun e w' => e = .returned (.int .i64 o) ∧ W6.drewN k = w') := fun k => tworst_any (FY.out k).2.2.1.ts
    have HD6 : Hid (D ≠ W.heap.size + 1 ∧ W.heap.size + 1 < D) := by have := Z3.out; exact ⟨by omega, by omega⟩
    have q0 : ((S.length : Int) == (S.length : Int)) = true := by simp
    have q1 : (n == n) = true := by simp
    have q2 : (o == o) = true := by simp
    clear CN FX hp6 hd6 k6 g6
    have FZ : Hid (∀ k, (W6.drewN k).heap[W.heap.size + 1]? = some (.cells #[.bool false] 4 (0, 0)) ∧ (W6.drewN k).heap[D]? = some (.deferred (some [])) ∧ Kept (fun _ => False) W (W6.drewN k)) := fun k => ⟨(FY.out k).2.1, (FY.out k).2.2.2.1, (FY.out k).2.2.2.2⟩
    clear FY
    by_cases h0 : S.length = 0
    · rw [if_pos h0] at hae
      obtain ⟨rfl, rfl⟩ := hae
      clear hrow2
      rw [h0] at hrf q0 c1
      clear h0
      go_wp2_with fail
      refine plain_last 28 _ (Drawing W6) rfl rfl (by kernel_rfl) mixed (drawing_drew W6) ?_
      simp only [List.take_succ_cons, List.take_zero]
      repeat (go_big_quiet_step (first | (go_at_call 47; (refine (CN5 _).out.mono ?_); rintro e w1 ⟨rfl, rfl⟩; exact ⟨rfl, _, rfl⟩) | (go_at_call 78; (refine (CW5 _).out.mono ?_); rintro e w1 ⟨rfl, rfl⟩; exact ⟨rfl, _, rfl⟩)))
      refine wpQuiet_nil ?_
      rintro _ ⟨nq, rfl⟩
      gi_wp2
      go_wp2_with fail
      obtain ⟨z1, z2, z3⟩ := FZ.out nq
      have k6 : Kept (fun _ => False) W ((W6.drewN nq).setCell ⟨W.heap.size + 1, 0, none⟩ (.bool true)) := z3.setCell (p := ⟨W.heap.size + 1, 0, none⟩) (.inr (by show W.heap.size ≤ W.heap.size + 1; omega)) _
      have hD6 : ((W6.drewN nq).setCell ⟨W.heap.size + 1, 0, none⟩ (.bool true)).heap[D]? = some (.deferred (some [])) := by
        rw [Below.heap_setCell _ _ _ _ (by exact HD6.out.1)]; exact z2
      have hc6 : ((W6.drewN nq).setCell ⟨W.heap.size + 1, 0, none⟩ (.bool true)).cell? ⟨W.heap.size + 1, 0, none⟩ = some (.bool true) := World.cell?_setCell_same _ _ _ (by rw [World.cell?_drewN]; exact c8)
      generalize (W6.drewN nq).setCell ⟨W.heap.size + 1, 0, none⟩ (.bool true) = W7 at *
      refine leave_one hD6 ⟨.bool true, ?_, rfl, k6.grown (grownBy_putObj' W7 D _) (fun k e => by cases e; exact .inr (by have := HD6.out.2; omega))⟩
      have hc7 : (W7.putObj D (.deferred none)).cell? ⟨W.heap.size + 1, 0, none⟩ = some (.bool true) := by
        rw [World.cell?_of_block (World.putObj_heap_other (by exact HD6.out.1.symm))]; exact hc6
      simp [results, Try.f41, go_sem, hc7]
    · rw [if_neg h0] at hae
      obtain ⟨hae, rfl⟩ := hae
      obtain ⟨g, rfl, x0, x1⟩ := hrow2 0 (by omega)
      unfold rky at x0
      rw [← hae] at x0
      have p1 : ((S.length : Int) == 0) = false := by simpa using h0
      have p2 : decide ((S.length : Int) > 0) = true := decide_eq_true (by omega)
      have p3 : decide (0 < S.length) = true := decide_eq_true (by omega)
      have p4 : (0 : Int) < (S.length : Int) := by omega
      have p5 : (S.length == 0) = false := by simpa using h0
      have p6 : 0 < S.length := by omega
      have p7 : (a != a) = false := by simp
      have p8 : decide (0 < (S.length : Int)) = true := decide_eq_true p4
      simp only [Nat.zero_mul] at x0
      clear x1 h0 hae
      generalize S.length = len at *
      go_wp2_with fail
      refine plain_last 28 _ (Drawing W6) rfl rfl (by kernel_rfl) mixed (drawing_drew W6) ?_
      simp only [List.take_succ_cons, List.take_zero]
      repeat (go_big_quiet_step (first | (go_at_call 47; (refine (CN5 _).out.mono ?_); rintro e w1 ⟨rfl, rfl⟩; exact ⟨rfl, _, rfl⟩) | (go_at_call 78; (refine (CW5 _).out.mono ?_); rintro e w1 ⟨rfl, rfl⟩; exact ⟨rfl, _, rfl⟩)))
      refine wpQuiet_nil ?_
      rintro _ ⟨nq, rfl⟩
      gi_wp2
      go_wp2_with fail
      obtain ⟨z1, z2, z3⟩ := FZ.out nq
      have k6 : Kept (fun _ => False) W ((W6.drewN nq).setCell ⟨W.heap.size + 1, 0, none⟩ (.bool true)) := z3.setCell (p := ⟨W.heap.size + 1, 0, none⟩) (.inr (by show W.heap.size ≤ W.heap.size + 1; omega)) _
      have hD6 : ((W6.drewN nq).setCell ⟨W.heap.size + 1, 0, none⟩ (.bool true)).heap[D]? = some (.deferred (some [])) := by
        rw [Below.heap_setCell _ _ _ _ (by exact HD6.out.1)]; exact z2
      have hc6 : ((W6.drewN nq).setCell ⟨W.heap.size + 1, 0, none⟩ (.bool true)).cell? ⟨W.heap.size + 1, 0, none⟩ = some (.bool true) := World.cell?_setCell_same _ _ _ (by rw [World.cell?_drewN]; exact c8)
      generalize (W6.drewN nq).setCell ⟨W.heap.size + 1, 0, none⟩ (.bool true) = W7 at *
      refine leave_one hD6 ⟨.bool true, ?_, rfl, k6.grown (grownBy_putObj' W7 D _) (fun k e => by cases e; exact .inr (by have := HD6.out.2; omega))⟩
      have hc7 : (W7.putObj D (.deferred none)).cell? ⟨W.heap.size + 1, 0, none⟩ = some (.bool true) := by
        rw [World.cell?_of_block (World.putObj_heap_other (by exact HD6.out.1.symm))]; exact hc6
      simp [results, Try.f41, go_sem, hc7]
end Go.Proofs.Ytpglkakbiaihdaa

/-
  TimersPlays: its walk; what several laws of timers share.
-/
namespace Go.Proofs.Ytpglkakbiaihdaa
open Go.RowKit Go.Shelf Go.Maps
set_option linter.unusedVariables false
set_option linter.unusedSimpArgs false

/-- Calls that lie at a: what is asked, the timer, the time. -/
def Ops5At (w : World) (a : Option Addr) (n : Nat) (V : Nat → Int × Int × Int) : Prop :=
  n = 0 ∨ ∃ g o, a = some ⟨g, o, none⟩ ∧ g < w.heap.size ∧ ∀ i, i < n → (w.cell? ⟨g, o + i * 3, none⟩ = some (.int .i64 (V i).1) ∧ w.cell? ⟨g, o + i * 3 + 1, none⟩ = some (.int .i64 (V i).2.1) ∧ w.cell? ⟨g, o + i * 3 + 2, none⟩ = some (.int .i64 (V i).2.2)) ∧ Is64 (V i).1 ∧ Is64 (V i).2.1 ∧ Is64 (V i).2.2
theorem Ops5At.below {w w' : World} {a : Option Addr} {n : Nat} {V : Nat → Int × Int × Int} (h : Ops5At w a n V) (b : Below w.heap.size w w') : Ops5At w' a n V := by
  rcases h with h | ⟨g, o, rfl, hg, hc⟩
  · exact .inl h
  · refine .inr ⟨g, o, rfl, Nat.lt_of_lt_of_le hg b.size, fun i hi => ?_⟩
    obtain ⟨⟨h1, h2, h3⟩, h4⟩ := hc i hi
    exact ⟨⟨(b.cell (p := ⟨g, o + i * 3, none⟩) hg).trans h1, (b.cell (p := ⟨g, o + i * 3 + 1, none⟩) hg).trans h2, (b.cell (p := ⟨g, o + i * 3 + 2, none⟩) hg).trans h3⟩, h4⟩

set_option maxHeartbeats 400000 in
theorem few5_any (a : Option Addr) (n cap : Nat) (w : World) : Calls Try.prog 38 #[.slice a n cap] w fun e w' => e = .returned (.bool (decide (n ≤ 60))) ∧ w' = w := by
  have e : decide ((n : Int) ≤ 60) = decide (n ≤ 60) := decide_eq_decide.2 (by omega)
  go_enter Try.func38, Try.ntmps38
  go_wp2
  go_ret
  simp [e]

set_option maxHeartbeats 400000 in
/-- The reference's New. -/
theorem rnew5 (B : Nat) (w : World) (hB : B ≤ w.heap.size) (m : Int) : Calls Try.prog 39 #[.int .i64 m] w fun E w' => ∃ rq rh, E = .returned (.pointer (some ⟨rq, 0, none⟩)) ∧ Rq B w' rq rh m 0 0 [] ∧ Grew w w' ∧ B ≤ rh := by
  have E1 := Lib.hid (heap_alloc_new w (.cells #[.slice none 0 0] 48))
  have E2 := Lib.hid (heap_alloc_new (w.alloc (.cells #[.slice none 0 0] 48)) (.cells #[.int .i64 m, .pointer (some ⟨w.heap.size, 0, none⟩), .int .i64 0, .int .i64 0] 125))
  have HB := Lib.hid hB
  clear hB
  go_enter Try.func39, Try.ntmps39
  go_wp2
  go_ret
  have g1 : Grew w (w.alloc (.cells #[.slice none 0 0] 48)) := (Grew.refl w).alloc _
  have e2 := E2.out
  have s1 : (w.alloc (.cells #[.slice none 0 0] 48)).heap.size = w.heap.size + 1 := by simp
  rw [s1] at e2
  refine ⟨w.heap.size + 1, w.heap.size, rfl, ⟨e2, ⟨none, 0, ?_, ⟨rfl, .inl ⟨rfl, rfl⟩⟩⟩, by have := HB.out; omega⟩, g1.alloc _, HB.out⟩
  exact (((Grew.refl _).alloc _).block (Array.getElem?_eq_some_iff.1 E1.out).1).trans E1.out
end Go.Proofs.Ytpglkakbiaihdaa

/-
  Arguments opened: a slice of the law's calls of timers (three numbers each).
-/
namespace Go.Proofs.Ytpglkakbiaihdaa
open Go.ChangeShapes Go.WideShapes Go.ChangeAt Go.RowKit Go.Deep
set_option linter.unusedVariables false

set_option maxRecDepth 100000 in
theorem open_ops5 {H : Type} {enc : TypeId × Value → H} {W : World} {base : Nat} {spare : Nat → Bool} {held : Bool} {fuel : Nat} {a : Option Addr} {len cap : Nat} {x : DataW H × List MemPlace}
    (h : DataW.trod enc Try.prog W base spare held fuel 66 [.slice a len cap] = some x) : ∃ V, Ops5At W a len V := by
  rcases open_slice Try.underlying66 h with ⟨hcs, _⟩ | ⟨ad, l, c, m, n, D, Pl, hcs, _, hl, hm, hmm, _, hx⟩
  · simp at hcs
    obtain ⟨rfl, rfl, rfl⟩ := hcs
    exact ⟨fun _ => (0, 0, 0), .inl rfl⟩
  · simp at hcs
    obtain ⟨rfl, rfl, rfl⟩ := hcs
    have each : ∀ i, i < m → ∃ q : Int × Int × Int, (W.cell? (ad.add (i * 3)) = some (.int .i64 q.1) ∧ W.cell? (ad.add (i * 3 + 1)) = some (.int .i64 q.2.1) ∧ W.cell? (ad.add (i * 3 + 2)) = some (.int .i64 q.2.2)) ∧ Is64 q.1 ∧ Is64 q.2.1 ∧ Is64 q.2.2 := by
      intro i hi
      obtain ⟨cs', h1, h2⟩ := hx i hi
      have ce : Try.prog.cellsOf 75 = 3 := by kernel_rfl
      rw [ce] at h1
      obtain ⟨_, hlen, hcell⟩ := World.cells?_some h1
      obtain ⟨y0, y1, y2, k, _, _, g0, g1, g2⟩ := trod_struct3 Try.underlying75 h2
      match cs', hlen with
      | [v0, v1, v2], _ =>
        have ci : Try.prog.cellsOf 3 = 1 := by kernel_rfl
        simp [ci] at g0 g1 g2
        obtain ⟨b0, e0, _, w0⟩ := DataW.trod_int Try.underlying3 g0
        obtain ⟨b1, e1, _, w1⟩ := DataW.trod_int Try.underlying3 g1
        obtain ⟨b2, e2, _, w2⟩ := DataW.trod_int Try.underlying3 g2
        simp only [List.cons.injEq, and_true] at e0 e1 e2
        have c0 := hcell 0 (by omega)
        have c1 := hcell 1 (by omega)
        have c2 := hcell 2 (by omega)
        rw [add_add] at c0 c1 c2
        refine ⟨(b0, b1, b2), ⟨?_, ?_, ?_⟩, bounds_i64 w0, bounds_i64 w1, bounds_i64 w2⟩
        · simpa [e0] using c0
        · simpa [e1] using c1
        · simpa [e2] using c2
    obtain ⟨q, hq⟩ := choose_lt each
    refine ⟨q, ?_⟩
    cases len with
    | zero => exact .inl rfl
    | succ l =>
      have hmi : ∀ i, i < l + 1 → i < m := fun i hi => by rw [hmm]; split <;> omega
      have h0 := (hq 0 (hmi 0 (by omega))).1.1
      obtain ⟨g, o, s⟩ := ad
      have hs : s = none := by simpa [Addr.add] using World.cell?_spot h0
      subst hs
      have ea : ∀ i, (⟨g, o, none⟩ : Addr).add i = ⟨g, o + i, none⟩ := fun i => by
        unfold Addr.add
        split
        · subst_vars; rfl
        · rfl
      refine .inr ⟨g, o, rfl, World.block_lt_of_cell? W ⟨g, o, none⟩ (by simpa [ea] using h0), fun i hi => ?_⟩
      obtain ⟨⟨h1, h2, h3⟩, h4⟩ := hq i (hmi i hi)
      rw [ea] at h1 h2 h3
      exact ⟨⟨h1, by rw [← Nat.add_assoc] at h2; exact h2, by rw [← Nat.add_assoc] at h3; exact h3⟩, h4⟩
end Go.Proofs.Ytpglkakbiaihdaa

/-
  TimersPlays: its walk.
-/
namespace Go.Proofs.Ytpglkakbiaihdaa
open Go.RowKit Go.Shelf Go.Maps
set_option linter.unusedVariables false
set_option linter.unusedSimpArgs false

/-- Both, behind so many calls: what turns lies from X on. -/
def At5 (X : Nat) (w W : World) (tb : Nat) (m : Int) (rq rh : Nat) (i : Nat) : Prop := ∃ q n o S, Pt X W tb q m n o rq rh S ∧ S.length ≤ i ∧ Below X w W ∧ timeE n = 0
theorem At5.lies {X : Nat} {w W W' : World} {tb : Nat} {m : Int} {rq rh i : Nat} (h : At5 X w W tb m rq rh i) (b : Below W.heap.size W W') : At5 X w W' tb m rq rh i := by
  obtain ⟨q, n, o, S, p, h1, h2, h3⟩ := h
  exact ⟨q, n, o, S, p.lies b, h1, h2.trans (b.mono p.base), h3⟩
theorem At5.does {X : Nat} {w W : World} {tb : Nat} {m : Int} {rq rh i : Nat} (h : At5 X w W tb m rq rh i) (hrh : X ≤ rh) (hi : i ≤ 1000) (k id t : Int) (hx : Is64 id ∧ Is64 t) :
    Calls Try.prog 40 #[.pointer (some ⟨tb, 0, none⟩), .pointer (some ⟨rq, 0, none⟩), .agg #[.int .i64 k, .int .i64 id, .int .i64 t]] W fun E w' => E = .returned (.bool true) ∧ At5 X w w' tb m rq rh (i + 1) := by
  obtain ⟨q, n, o, S, p, h1, h2, h3⟩ := h
  refine (does5_any p hrh (by omega) k id t hx).mono ?_
  rintro E w' ⟨rfl, q', n', o', S', p', h4, h5, h6⟩
  refine ⟨rfl, q', n', o', S', p', by omega, h2.trans h5, ?_⟩
  rcases h6 with rfl | h6
  · exact h3
  · exact h6
theorem At5.same {X : Nat} {w W : World} {tb : Nat} {m : Int} {rq rh i : Nat} (h : At5 X w W tb m rq rh i) (hi : i ≤ 1000) :
    Calls Try.prog 41 #[.pointer (some ⟨tb, 0, none⟩), .pointer (some ⟨rq, 0, none⟩)] W fun E w' => E = .returned (.bool true) ∧ At5 X w w' tb m rq rh i := by
  have h' := h
  obtain ⟨q, n, o, S, p, h1, h2, _⟩ := h
  refine (same5_any p (by omega)).mono ?_
  rintro E w' ⟨rfl, k⟩
  exact ⟨rfl, h'.lies (k.below (Nat.le_refl _) (fun _ x => x.elim))⟩
theorem At5.low {X : Nat} {w W : World} {tb : Nat} {m : Int} {rq rh i : Nat} (h : At5 X w W tb m rq rh i) : Below X w W := by
  obtain ⟨_, _, _, _, _, _, h2, _⟩ := h
  exact h2
theorem at5_new {w w1 w2 : World} {tb rq rh : Nat} {q : QB} {m : Int} (t : Ts 0 w1 tb q m 0 0 []) (g1 : Below w.heap.size w w1) (htb : w.heap.size ≤ tb) (hq : ∀ k, q.own k → w.heap.size ≤ k) (r : Rq w.heap.size w2 rq rh m 0 0 []) (g2 : Below w1.heap.size w1 w2) : At5 w.heap.size w w2 tb m rq rh 0 :=
  ⟨q, 0, 0, [], ⟨t.lies g2, r, List.Pairwise.nil, Nat.le_trans g1.size g2.size, fun k hk => by
    rcases hk with hk | rfl
    · exact hq k (.inl hk)
    · exact htb⟩, Nat.le_refl _, g1.trans (g2.mono g1.size), rfl⟩

set_option maxHeartbeats 2000000 in
set_option maxRecDepth 20000 in
theorem plays5_bad (a : Option Addr) (n cap : Nat) (m : Int) (hm : m < 1 ∨ 1024 < m) (w : World) :
    Calls Try.prog 7 #[.int .i64 m, .slice a n cap] w fun E w' => E = .returned (.bool true) ∧ Below w.heap.size w w' := by
  have CW : ∀ W, Hid (Calls Try.prog 37 #[] W fun E w' => E = .returned (.bool true) ∧ Below W.heap.size W w') := fun W => awake5 W
  have C1 := Lib.hid (tnew_bad w m hm)
  by_cases h1 : m < 1
  · have t1 : decide (m < 1) = true := decide_eq_true h1
    clear hm h1
    go_enter Try.func7, Try.ntmps7
    go_wp2_with fail
    refine C1.out.mono ?_
    rintro E w1 ⟨rfl, rfl⟩
    go_wp2_with fail
    refine (CW _).out.mono ?_
    rintro E w2 ⟨rfl, b2⟩
    go_wp2
    go_ret
    exact ⟨rfl, b2⟩
  · have t1 : decide (m < 1) = false := decide_eq_false h1
    have t2 : decide (m > 1024) = true := decide_eq_true (by omega)
    have t3 : decide (1024 < m) = true := decide_eq_true (by omega)
    clear hm h1
    go_enter Try.func7, Try.ntmps7
    go_wp2_with fail
    refine C1.out.mono ?_
    rintro E w1 ⟨rfl, rfl⟩
    go_wp2_with fail
    refine (CW _).out.mono ?_
    rintro E w2 ⟨rfl, b2⟩
    go_wp2
    go_ret
    exact ⟨rfl, b2⟩

set_option maxHeartbeats 4000000 in
set_option maxRecDepth 20000 in
theorem plays5_core (a : Option Addr) (n cap : Nat) (m : Int) (h1 : 1 ≤ m) (h2 : m ≤ 1024) (V : Nat → Int × Int × Int) (w : World) (hv : Ops5At w a n V) :
    Calls Try.prog 7 #[.int .i64 m, .slice a n cap] w fun E w' => E = .returned (.bool true) ∧ Below w.heap.size w w' := by
  have CW : ∀ W, Hid (Calls Try.prog 37 #[] W fun E w' => E = .returned (.bool true) ∧ Below W.heap.size W w') := fun W => awake5 W
  have CF : ∀ W, Hid (Calls Try.prog 38 #[.slice a n cap] W fun e w' => e = .returned (.bool (decide (n ≤ 60))) ∧ w' = W) := fun W => few5_any a n cap W
  have C1 := Lib.hid (tnew_any 0 w (Nat.zero_le _) m h1 h2)
  have t1 : decide (m < 1) = false := decide_eq_false (by omega)
  have t2 : decide (m > 1024) = false := decide_eq_false (by omega)
  have t3 : decide (1024 < m) = false := decide_eq_false (by omega)
  have HV := Lib.hid hv
  clear hv h1 h2
  by_cases hn : n ≤ 60
  · have t4 : decide (n ≤ 60) = true := decide_eq_true hn
    go_enter Try.func7, Try.ntmps7
    go_wp2_with fail
    refine C1.out.mono ?_
    rintro E w1 ⟨tb, q1, rfl, t1', g1, o1, o2⟩
    have T1 : Hid ((Ts 0 w1 tb q1 m 0 0 [] ∧ Below w.heap.size w w1) ∧ w.heap.size ≤ tb ∧ ∀ k, q1.own k → w.heap.size ≤ k) := ⟨⟨t1', g1.below⟩, o1, o2⟩
    clear t1' g1 C1 o1 o2
    go_wp2_with fail
    refine (CF _).out.mono ?_
    rintro E w1' ⟨rfl, rfl⟩
    have C2 := Lib.hid (rnew5 w.heap.size w1' T1.out.1.2.size m)
    go_wp2_with fail
    refine C2.out.mono ?_
    rintro E w2 ⟨rq, rh, rfl, r2, g2, hrh⟩
    have T2 : Hid (At5 w.heap.size w w2 tb m rq rh 0) := at5_new T1.out.1.1 T1.out.1.2 T1.out.2.1 T1.out.2.2 r2 g2.below
    have HRH := Lib.hid hrh
    clear r2 g2 T1 C2 hrh
    go_wp2_with fail
    go_loopg [8] n (fun gk s8 wr => ∃ i : Nat, s8 = .int .i64 i ∧ i ≤ n ∧ n - i ≤ gk ∧ Hid (At5 w.heap.size w wr tb m rq rh i))
    case atStart => exact ⟨0, rfl, Nat.zero_le _, Nat.le_refl _, T2⟩
    case round =>
      rename World => W2
      obtain ⟨i, rfl, hi, hgk, HR⟩ := hrel
      clear T2
      by_cases hlt : i < n
      · have d1 : decide ((i : Int) < (n : Int)) = true := decide_eq_true (by omega)
        have d2 : decide (i < n) = true := decide_eq_true hlt
        have d3 : (i : Int) < (n : Int) := by omega
        rcases HV.out.below HR.out.low with hz | ⟨g, o, rfl, hg, hc⟩
        · omega
        obtain ⟨⟨c0, c1, c2⟩, hx⟩ := hc i hlt
        have CD := Lib.hid (HR.out.does HRH.out (by omega) (V i).1 (V i).2.1 (V i).2.2 hx.2)
        have CS : Hid (∀ W', At5 w.heap.size w W' tb m rq rh (i + 1) → Calls Try.prog 41 #[.pointer (some ⟨tb, 0, none⟩), .pointer (some ⟨rq, 0, none⟩)] W' fun E w' => E = .returned (.bool true) ∧ At5 w.heap.size w w' tb m rq rh (i + 1)) := fun W' h => h.same (by omega)
        clear hc hg hx HR
        generalize V i = v at *
        obtain ⟨v1, v2, v3⟩ := v
        simp only [] at c0 c1 c2 CD
        go_wp2_with fail
        refine CD.out.mono ?_
        rintro E w3 ⟨rfl, h3⟩
        have C3 := Lib.hid (CS.out _ h3)
        clear h3 CS CD c0 c1 c2
        go_wp2_with fail
        refine C3.out.mono ?_
        rintro E w4 ⟨rfl, h4⟩
        have H4 := Lib.hid h4
        clear h4 C3
        go_wp2
        go_roundg (n - (i + 1))
        case measure => omega
        case rel => exact ⟨i + 1, by go_num, by omega, Nat.le_refl _, H4⟩
      · obtain rfl : i = n := by omega
        have d1 : decide ((i : Int) < (i : Int)) = false := decide_eq_false (by omega)
        have d2 : decide (i < i) = false := decide_eq_false (by omega)
        have B5 := Lib.hid HR.out.low
        clear HR
        go_wp2_with fail
        refine (CW _).out.mono ?_
        rintro E w5 ⟨rfl, b5⟩
        go_wp2
        go_ret
        exact ⟨rfl, B5.out.trans (b5.mono B5.out.size)⟩
  · have t4 : decide (n ≤ 60) = false := decide_eq_false hn
    go_enter Try.func7, Try.ntmps7
    go_wp2_with fail
    refine C1.out.mono ?_
    rintro E w1 ⟨tb, q1, rfl, t1', g1, _, _⟩
    have T1 : Hid (Below w.heap.size w w1) := g1.below
    clear t1' g1 C1
    go_wp2_with fail
    refine (CF _).out.mono ?_
    rintro E w1' ⟨rfl, rfl⟩
    go_wp2_with fail
    refine (CW _).out.mono ?_
    rintro E w5 ⟨rfl, b5⟩
    go_wp2
    go_ret
    exact ⟨rfl, T1.out.trans (b5.mono T1.out.size)⟩

theorem walk_TimersPlays (m : Int) (a : Option Addr) (n cap : Nat) (w : World) (hm : Is64 m) (h : ∃ V, Ops5At w a n V) :
    Calls Try.prog 7 #[.int .i64 m, .slice a n cap] w fun E w' => E = .returned (.bool true) ∧ Below w.heap.size w w' := by
  obtain ⟨V, hv⟩ := h
  by_cases hb : m < 1 ∨ 1024 < m
  · exact plays5_bad a n cap m hb w
  · exact plays5_core a n cap m (by omega) (by omega) V w hv
end Go.Proofs.Ytpglkakbiaihdaa

/-
  ready.Queue and timers.Queue: Copy.
-/
namespace Go.Proofs.Ytpglkakbiaihdaa
open Go.RowKit Go.Shelf Go.Maps
set_option linter.unusedVariables false
set_option linter.unusedSimpArgs false

theorem below_al (V : World) (o : Obj) : Below V.heap.size V (V.alloc o) := (Below.refl _ V).alloc (Nat.le_refl _) o
theorem keepc {W W' : World} {p : Addr} {v : Value} (h : W.cell? p = some v) (hb : Below W.heap.size W W') : W'.cell? p = some v := by
  rcases Nat.lt_or_ge p.block W.heap.size with hlt | hge
  · rw [hb.cell hlt]; exact h
  · simp [World.cell?, Array.getElem?_eq_none hge] at h
theorem keep2 {W W' : World} {p1 p2 : Addr} {v1 v2 : Value} (h : W.cell? p1 = some v1 ∧ W.cell? p2 = some v2) (hb : Below W.heap.size W W') : W'.cell? p1 = some v1 ∧ W'.cell? p2 = some v2 := ⟨keepc h.1 hb, keepc h.2 hb⟩
theorem keep4 {W W' : World} {p1 p2 p3 p4 : Addr} {v1 v2 v3 v4 : Value} (h : W.cell? p1 = some v1 ∧ W.cell? p2 = some v2 ∧ W.cell? p3 = some v3 ∧ W.cell? p4 = some v4) (hb : Below W.heap.size W W') : W'.cell? p1 = some v1 ∧ W'.cell? p2 = some v2 ∧ W'.cell? p3 = some v3 ∧ W'.cell? p4 = some v4 := ⟨keepc h.1 hb, keepc h.2.1 hb, keepc h.2.2.1 hb, keepc h.2.2.2 hb⟩
theorem mine_ge {B : Nat} {w : World} {fv : Value} {lt : K.Ky → K.Ky → Bool} {hb mb : Nat} {ro : Option Nat} {C : List K.Ent} (h : K.Hs fv lt B w hb mb ro C) : ∀ k, Mine hb mb ro k → B ≤ k := h.base

set_option maxHeartbeats 2000000 in
set_option maxRecDepth 20000 in
/-- A queue of its own that holds the same: new blocks, but for the order's. -/
theorem qcopy_any {B : Nat} {w : World} {q : QB} {L : List Ent} (h : Qs B w q L) (hd : L.Pairwise (fun x y => x.1 ≠ y.1)) (hok : ∀ x ∈ L, 0 ≤ x.1 ∧ Is64 x.1 ∧ Is64 x.2) (hl : L.length < 1099511627776) (hB : B ≤ w.heap.size) :
    Calls Try.prog 25 #[.pointer (some ⟨q.qb, 0, none⟩)] w fun E w' => ∃ r, E = .returned (.pointer (some ⟨r.qb, 0, none⟩)) ∧ Qs B w' r L ∧ Kept (fun _ => False) w w' ∧ (∀ k, r.own k → w.heap.size ≤ k ∨ k = q.fb) ∧ r.fb = q.fb ∧ ∀ k, r.turns k ∨ k = r.qb → w.heap.size ≤ k := by
  have dif : K.Dif (L.map kN) := List.pairwise_map.2 hd
  have ok : ∀ x ∈ L.map kN, (0 ≤ x.1 ∧ Is64 x.1) ∧ Is64 x.2.1 ∧ Is64 x.2.2 := fun x hx => by
    obtain ⟨y, hy, rfl⟩ := List.mem_map.1 hx
    have := hok y hy
    exact ⟨⟨this.1, this.2.1⟩, this.2.2, this.2.1⟩
  have ln : (L.map kN).length < 1099511627776 := by rw [List.length_map]; exact hl
  have CU : Hid (∀ W', Below w.heap.size w W' → Calls Try.prog 71 #[.pointer (some ⟨q.hu, 0, none⟩)] W' fun E w' => ∃ hc, E = .returned (.pointer (some ⟨hc, 0, none⟩)) ∧ Hid (∃ mc rc, K.Hs K.upV K.ltK w.heap.size w' hc mc rc (L.map kN) ∧ Below w.heap.size w w' ∧ ∀ k, Mine hc mc rc k → k < w'.heap.size) ∧ w'.cell? ⟨q.qb, 0, none⟩ = some (.pointer (some ⟨q.hu, 0, none⟩)) ∧ w'.cell? ⟨q.qb, 1, none⟩ = some (.pointer (some ⟨q.hd, 0, none⟩))) := fun W' b => by
    have hq : Qs B W' q L := h.kept (kept_lies (S := fun _ => False) b) (fun _ _ x => x)
    refine (K.copy_any K.upV K.ltK B W' q.hu q.mu q.ru (L.map kN) hq.up dif ok ln).mono ?_
    rintro E w' ⟨hc, mc, rc, rfl, h1, k⟩
    have b2 : Below w.heap.size w w' := b.trans (k.below b.size (fun _ x => x.elim))
    have hq2 : Qs B w' q L := h.kept (kept_lies (S := fun _ => False) b2) (fun _ _ x => x)
    exact ⟨hc, rfl, ⟨mc, rc, K.Hs.lower h1 b.size, b2, h1.inside⟩, hq2.c0, hq2.c1⟩
  have CD : Hid (∀ W' hc, Hid (∃ mc rc, K.Hs K.upV K.ltK w.heap.size W' hc mc rc (L.map kN) ∧ Below w.heap.size w W' ∧ ∀ k, Mine hc mc rc k → k < W'.heap.size) → Calls Try.prog 71 #[.pointer (some ⟨q.hd, 0, none⟩)] W' fun E w' => ∃ hd, E = .returned (.pointer (some ⟨hd, 0, none⟩)) ∧ Hid (∃ mc rc md rd, K.Hs K.upV K.ltK w.heap.size w' hc mc rc (L.map kN) ∧ K.Hs (K.downV q.fb) K.ltD w.heap.size w' hd md rd (L.map kN) ∧ Below w.heap.size w w' ∧ ∀ k, Mine hc mc rc k → Mine hd md rd k → False) ∧ w'.cell? ⟨q.qb, 0, none⟩ = some (.pointer (some ⟨q.hu, 0, none⟩)) ∧ w'.cell? ⟨q.qb, 1, none⟩ = some (.pointer (some ⟨q.hd, 0, none⟩))) := fun W' hc hh => by
    obtain ⟨mc, rc, h1, b, hin⟩ := hh.out
    have hq : Qs B W' q L := h.kept (kept_lies (S := fun _ => False) b) (fun _ _ x => x)
    refine (K.copy_any (K.downV q.fb) K.ltD B W' q.hd q.md q.rd (L.map kN) hq.down dif ok ln).mono ?_
    rintro E w' ⟨hd', md, rd, rfl, h2, k⟩
    have b2 : Below w.heap.size w w' := b.trans (k.below b.size (fun _ x => x.elim))
    have hq2 : Qs B w' q L := h.kept (kept_lies (S := fun _ => False) b2) (fun _ _ x => x)
    exact ⟨hd', rfl, ⟨mc, rc, md, rd, h1.kept k (fun _ _ x => x) (fun _ _ x => x.elim), K.Hs.lower h2 b.size, b2, fun j ha hb => by have := hin j ha; have := h2.base j hb; omega⟩, hq2.c0, hq2.c1⟩
  have FIN : Hid (∀ W' hc hd, Hid (∃ mc rc md rd, K.Hs K.upV K.ltK w.heap.size W' hc mc rc (L.map kN) ∧ K.Hs (K.downV q.fb) K.ltD w.heap.size W' hd md rd (L.map kN) ∧ Below w.heap.size w W' ∧ ∀ k, Mine hc mc rc k → Mine hd md rd k → False) →
      ∃ r : QB, r.qb = W'.heap.size ∧ Qs B (W'.alloc (.cells #[.pointer (some ⟨hc, 0, none⟩), .pointer (some ⟨hd, 0, none⟩)] 111)) r L ∧ Kept (fun _ => False) w (W'.alloc (.cells #[.pointer (some ⟨hc, 0, none⟩), .pointer (some ⟨hd, 0, none⟩)] 111)) ∧ (∀ k, r.own k → w.heap.size ≤ k ∨ k = q.fb) ∧ r.fb = q.fb ∧ ∀ k, r.turns k ∨ k = r.qb → w.heap.size ≤ k) := fun W' hc hd hh => by
    obtain ⟨mc, rc, md, rd, h1, h2, b, hap⟩ := hh.out
    have g : Grew W' (W'.alloc (.cells #[.pointer (some ⟨hc, 0, none⟩), .pointer (some ⟨hd, 0, none⟩)] 111)) := (Grew.refl W').alloc _
    have hbox : K.FBox (W'.alloc (.cells #[.pointer (some ⟨hc, 0, none⟩), .pointer (some ⟨hd, 0, none⟩)] 111)) q.fb := ((b.trans (g.below.mono b.size)).block q.fb h.box.lt).trans h.box
    have tn : ∀ k, (Mine hc mc rc k ∨ Mine hd md rd k) ∨ k = W'.heap.size → w.heap.size ≤ k := fun k hk => by
      rcases hk with (hk | hk) | rfl
      · exact h1.base k hk
      · exact h2.base k hk
      · exact b.size
    refine ⟨⟨W'.heap.size, hc, mc, rc, hd, md, rd, q.fb⟩, rfl, ⟨heap_alloc_new _ _, K.Hs.lower (h1.grew g) hB, K.Hs.lower (h2.grew g) hB, hbox, hap, Nat.le_trans hB b.size, h.base.2⟩, (kept_lies b).trans (g.kept _), ?_, rfl, tn⟩
    rintro k (hk | hk | hk)
    · exact .inl (tn k (.inl hk))
    · exact .inl (tn k (.inr hk))
    · exact .inr hk
  have c0 := h.c0
  have c1 := h.c1
  clear h hd hok hl hB dif ok ln
  go_enter Try.func25, Try.ntmps25
  go_wp2_with fail
  go_region_held3 (fun w' => w'.cell? ⟨q.qb, 0, none⟩ = some (.pointer (some ⟨q.hu, 0, none⟩)) ∧ w'.cell? ⟨q.qb, 1, none⟩ = some (.pointer (some ⟨q.hd, 0, none⟩)))
    (first | exact ⟨c0, c1⟩ | exact ⟨s0, s1⟩ | exact ⟨u0, u1⟩ | exact keep2 ⟨u0, u1⟩ (below_al _ _))
    (first
      | (go_at_call 71; (refine (CD.out _ _ hq9).mono ?_); rintro E w8 ⟨hd8, rfl, hq8, u0, u1⟩)
      | (go_at_call 71; (refine (CU.out _ (grewN w 1).below).mono ?_); rintro E w9 ⟨hc9, rfl, hq9, s0, s1⟩))
  obtain ⟨r, hr, f1⟩ := FIN.out _ _ _ hq8
  go_wp2
  go_ret
  refine ⟨r, ?_, f1⟩
  rw [hr]
  rfl

set_option maxHeartbeats 2000000 in
set_option maxRecDepth 20000 in
theorem tcopy_any {B : Nat} {w : World} {tb : Nat} {q : QB} {m n o : Int} {L : List Ent} (h : Ts B w tb q m n o L) (hl : L.length < 1099511627776) (hB : B ≤ w.heap.size) :
    Calls Try.prog 42 #[.pointer (some ⟨tb, 0, none⟩)] w fun E w' => ∃ tc r, E = .returned (.pointer (some ⟨tc, 0, none⟩)) ∧ Ts B w' tc r m n o L ∧ Kept (fun _ => False) w w' ∧ r.fb = q.fb ∧ ∀ k, (r.turns k ∨ k = r.qb) ∨ k = tc → w.heap.size ≤ k := by
  have CU : Hid (∀ W', Below w.heap.size w W' → Calls Try.prog 25 #[.pointer (some ⟨q.qb, 0, none⟩)] W' fun E w' => ∃ rq, E = .returned (.pointer (some ⟨rq, 0, none⟩)) ∧ Hid (∃ r : QB, r.qb = rq ∧ Qs B w' r L ∧ Below w.heap.size w w' ∧ r.fb = q.fb ∧ ∀ k, r.turns k ∨ k = r.qb → w.heap.size ≤ k) ∧ w'.cell? ⟨tb, 0, none⟩ = some (.pointer (some ⟨q.qb, 0, none⟩)) ∧ w'.cell? ⟨tb, 1, none⟩ = some (.int .i64 m) ∧ w'.cell? ⟨tb, 2, none⟩ = some (.int .i64 n) ∧ w'.cell? ⟨tb, 3, none⟩ = some (.int .i64 o)) := fun W' b => by
    have ht := h.lies b
    refine (qcopy_any ht.queue ht.diff (fun x hx => ⟨(ht.good x hx).1.1, (ht.good x hx).2⟩) hl (Nat.le_trans hB b.size)).mono ?_
    rintro E w' ⟨r, rfl, h1, k, _, h3, h4⟩
    have b2 : Below w.heap.size w w' := b.trans (k.below b.size (fun _ x => x.elim))
    exact ⟨r.qb, rfl, ⟨r, rfl, h1, b2, h3, fun j hj => Nat.le_trans b.size (h4 j hj)⟩, (h.lies b2).cells⟩
  have FIN : Hid (∀ W' rq, Hid (∃ r : QB, r.qb = rq ∧ Qs B W' r L ∧ Below w.heap.size w W' ∧ r.fb = q.fb ∧ ∀ k, r.turns k ∨ k = r.qb → w.heap.size ≤ k) →
      ∃ r, Ts B (W'.alloc (.cells #[.pointer (some ⟨rq, 0, none⟩), .int .i64 m, .int .i64 n, .int .i64 o] 123)) W'.heap.size r m n o L ∧ Kept (fun _ => False) w (W'.alloc (.cells #[.pointer (some ⟨rq, 0, none⟩), .int .i64 m, .int .i64 n, .int .i64 o] 123)) ∧ r.fb = q.fb ∧ ∀ k, (r.turns k ∨ k = r.qb) ∨ k = W'.heap.size → w.heap.size ≤ k) := fun W' rq hh => by
    obtain ⟨r, rfl, h1, b, h3, h4⟩ := hh.out
    have g : Grew W' (W'.alloc (.cells #[.pointer (some ⟨r.qb, 0, none⟩), .int .i64 m, .int .i64 n, .int .i64 o] 123)) := (Grew.refl W').alloc _
    refine ⟨r, ⟨heap_alloc_new _ _, h1.grew g, fun ho => by have := h1.lt _ ho; omega, Nat.le_trans hB b.size, h.diff, h.good⟩, (kept_lies b).trans (g.kept _), h3, fun k hk => ?_⟩
    rcases hk with hk | rfl
    · exact h4 k hk
    · exact b.size
  obtain ⟨c0, c1, c2, c3⟩ := h.cells
  clear h hl hB
  go_enter Try.func42, Try.ntmps42
  go_wp2_with fail
  go_region_held3 (fun w' => w'.cell? ⟨tb, 0, none⟩ = some (.pointer (some ⟨q.qb, 0, none⟩)) ∧ w'.cell? ⟨tb, 1, none⟩ = some (.int .i64 m) ∧ w'.cell? ⟨tb, 2, none⟩ = some (.int .i64 n) ∧ w'.cell? ⟨tb, 3, none⟩ = some (.int .i64 o))
    (first | exact ⟨c0, c1, c2, c3⟩ | exact ⟨s0, s1, s2, s3⟩ | exact keep4 ⟨s0, s1, s2, s3⟩ (below_al _ _))
    (first
      | (go_at_call 25; (refine (CU.out _ (grewN w 1).below).mono ?_); rintro E w9 ⟨rq9, rfl, hq9, s0, s1, s2, s3⟩))
  obtain ⟨r, f1⟩ := FIN.out _ _ hq9
  go_wp2
  go_ret
  exact ⟨_, r, rfl, f1⟩
end Go.Proofs.Ytpglkakbiaihdaa
