/-
  ready.Queue: Until; timers.Queue: Armed, for a range over either.
-/
import Derived.Test.YtpglkakbiaihdaaQx1
import Derived.Test.YtpglkakbiaihdaaTx1
import Derived.Test.YtpglkakbiaihdaaTx1
import Derived.Laws.EntriesVeiled
namespace Go.Proofs.Ytpglkakbiaihdaa
open Go.RowKit Go.Sort Go.Shelf Go.Maps
set_option linter.unusedVariables false
set_option linter.unusedSimpArgs false
attribute [local go_sem] Oper.semAt_some

theorem seqAt_grew {B c : Nat} {S : List K.Ent} {w w' : World} (h : K.SeqAt B c S w) (g : Grew w w') : K.SeqAt B c S w' := by
  obtain ⟨hB, rv, hcell, hrv⟩ := h
  refine ⟨hB, rv, (g.block (Array.getElem?_eq_some_iff.1 hcell).1).trans hcell, ?_⟩
  rcases hrv with h | ⟨rb, cap, h1, h2, h3, h4⟩
  · exact .inl h
  · exact .inr ⟨rb, cap, h1, h2, h3, h4.kept (g.block h4.lt)⟩
theorem SeqOwn.later {P : Program} {gf : Nat} {lb : Array Value} {encs : Nat → Array Value} {F : Nat → Prop} {c N : Nat} {w w' : World} (h : SeqOwn P gf lb encs F c N w) (b : Below w.heap.size w w') : SeqOwn P gf lb encs F c N w' :=
  fun l J Jx W hW => h l J Jx W (b.trans (hW.mono b.size))

set_option maxHeartbeats 1000000 in
set_option maxRecDepth 20000 in
theorem quntil_any {B : Nat} {w : World} {q : QB} {L T : List Ent} (h : Qs B w q L) (hT : T.Perm L) (hs : Sorted T) (hd : T.Pairwise (fun x y => x.1 ≠ y.1)) (hl : T.length < 1099511627776) (t : Int) :
    Calls Try.prog 24 #[.pointer (some ⟨q.qb, 0, none⟩), .int .i64 t] w fun E w' => ∃ cu ct F, E = .returned (.func (.func 70) #[] #[.pointer (some ⟨cu, 0, none⟩), .pointer (some ⟨ct, 0, none⟩)]) ∧ SeqOwn Try.prog 70 #[.pointer (some ⟨cu, 0, none⟩), .pointer (some ⟨ct, 0, none⟩)] (enU T) F 1 (untilN t T) w' ∧ (∀ k, F k → w.heap.size ≤ k ∧ k < w'.heap.size) ∧ Kept (fun _ => False) w w' := by
  obtain ⟨W0, hW0⟩ : ∃ W0, w.alloc (.cells #[.int .i64 t] 3) = W0 := ⟨_, rfl⟩
  have g0 : Grew w W0 := by rw [← hW0]; exact (Grew.refl w).alloc _
  have b0 : W0.heap[w.heap.size]? = some (.cells #[.int .i64 t] 3 (0, 0)) := by rw [← hW0]; exact heap_alloc_new _ _
  have C1 := Lib.hid (fromFirst_any (h.grew g0))
  have C2 := Lib.hid (up_all ((h.grew g0).perm hT.symm).up hd hs)
  have H0 : Hid (Grew w W0 ∧ W0.heap[w.heap.size]? = some (.cells #[.int .i64 t] 3 (0, 0))) := ⟨g0, b0⟩
  have HW := Lib.hid hW0
  clear h hT hs hd g0 b0 hW0
  go_enter Try.func24, Try.ntmps24
  go_wp2_with fail
  rw [HW.out]
  refine C1.out.mono ?_
  rintro e W1' ⟨rfl, rfl⟩
  go_wp2_with fail
  refine C2.out.mono ?_
  rintro e W1 ⟨rfl, hseq, hk⟩
  obtain ⟨W3, hW3⟩ : ∃ W3, W1.alloc (.cells #[.func (.func 103) #[] #[.pointer (some ⟨W0.heap.size, 0, none⟩)]] 116) = W3 := ⟨_, rfl⟩
  have HF : Hid (∃ F, SeqOwn Try.prog 70 #[.pointer (some ⟨W1.heap.size, 0, none⟩), .pointer (some ⟨w.heap.size, 0, none⟩)] (enU T) F 1 (untilN t T) W3 ∧ (∀ k, F k → w.heap.size ≤ k ∧ k < W3.heap.size) ∧ Kept (fun _ => False) w W3) := by
    obtain ⟨g0, b0⟩ := H0.out
    have g3 : Grew W1 W3 := by rw [← hW3]; exact (Grew.refl W1).alloc _
    have e3 : W3.heap[W1.heap.size]? = some (.cells #[.func (.func 103) #[] #[.pointer (some ⟨W0.heap.size, 0, none⟩)]] 116 (0, 0)) := by rw [← hW3]; exact heap_alloc_new _ _
    have hlt : w.heap.size < W0.heap.size := (Array.getElem?_eq_some_iff.1 b0).1
    have b3 : W3.heap[w.heap.size]? = some (.cells #[.int .i64 t] 3 (0, 0)) := (g3.block (Nat.lt_of_lt_of_le hlt hk.size)).trans ((hk.block _ hlt (fun x => x)).trans b0)
    have sq := seqAt_grew hseq g3
    have hcl : W0.heap.size < W3.heap.size := by
      obtain ⟨_, rv, hcell, _⟩ := sq
      exact (Array.getElem?_eq_some_iff.1 hcell).1
    obtain ⟨rb, r1, r2, ho⟩ := until_own (by omega) sq (Array.getElem?_eq_some_iff.1 e3).1 (by simp [World.cell?, e3]) b3
    refine ⟨_, ho, fun k hk' => ?_, (g0.kept _).trans (hk.trans (g3.kept _))⟩
    have z := g0.size
    have z2 := hk.size
    have z3 := g3.size
    rcases hk' with rfl | rfl | rfl
    · exact ⟨z, hcl⟩
    · exact ⟨by omega, r2⟩
    · exact ⟨Nat.le_refl _, by omega⟩
  have HW3 := Lib.hid hW3
  clear hseq hk C1 C2 H0 HW hW3
  go_wp2
  refine bodyPost_ret (v := .func (.func 70) #[] #[.pointer (some ⟨W1.heap.size, 0, none⟩), .pointer (some ⟨w.heap.size, 0, none⟩)]) (by simp [results, Try.f24, go_sem]) rfl ?_
  rw [HW3.out]
  obtain ⟨F, f1, f2, f3⟩ := HF.out
  exact ⟨_, _, F, rfl, f1, f2, f3⟩

/-- What Armed's yield is handed in round k. -/
def enA (T : List Ent) (k : Nat) : Array Value := #[.int .i64 (T.getD k (0, 0)).1, .int .i64 (T.getD k (0, 0)).2]

set_option maxHeartbeats 2000000 in
set_option maxRecDepth 100000 in
theorem armed_own {T : List Ent} {N : Nat} {w : World} {F : Nat → Prop} {cu ct cv : Nat} (hall : SeqOwn Try.prog 70 #[.pointer (some ⟨cu, 0, none⟩), .pointer (some ⟨ct, 0, none⟩)] (enU T) F 1 N w) (hcv : cv < w.heap.size)
    (hu : w.cell? ⟨cv, 0, none⟩ = some (.func (.func 70) #[] #[.pointer (some ⟨cu, 0, none⟩), .pointer (some ⟨ct, 0, none⟩)])) :
    SeqOwn Try.prog 85 #[.pointer (some ⟨cv, 0, none⟩)] (enA T) F 4 N w := by
  intro l J Jx W hW hJ hJx hY h0
  obtain ⟨W1, hW1⟩ : ∃ W1, W.alloc (.cells #[.func (.yield l) #[] #[]] 27) = W1 := ⟨_, rfl⟩
  have gW : Grew W W1 := by rw [← hW1]; exact (Grew.refl W).alloc _
  have y1 : W1.heap[W.heap.size]? = some (.cells #[.func (.yield l) #[] #[]] 27 (0, 0)) := by rw [← hW1]; exact heap_alloc_new _ _
  have j1 : J 0 W1 := by rw [← hW1]; exact hJ.alloc _ h0
  have z1 : W1.heap.size = W.heap.size + 1 := by rw [← hW1]; simp
  have b1 : Below w.heap.size w W1 := hW.trans (gW.below.mono hW.size)
  have u1 : W1.cell? ⟨cv, 0, none⟩ = some (.func (.func 70) #[] #[.pointer (some ⟨cu, 0, none⟩), .pointer (some ⟨ct, 0, none⟩)]) := (b1.cell (p := ⟨cv, 0, none⟩) hcv).trans hu
  obtain ⟨sb, hsb⟩ : ∃ sb, W.heap.size = sb := ⟨_, rfl⟩
  rw [hsb] at y1 z1 hY
  have hoI : OwnFrom W1.heap.size (fun (k : Nat) V => J k V ∧ V.heap[sb]? = some (.cells #[.func (.yield l) #[] #[]] 27 (0, 0)) ∧ W1.heap.size ≤ V.heap.size) := by
    rintro s A A' row ⟨h2, h3, h5⟩ hg hr
    have keep : ∀ (j : Nat) (o : Obj), A.heap[j]? = some o → j < W1.heap.size → A'.heap[j]? = some o := fun j o q1 q2 => (hg.block j (Array.getElem?_eq_some_iff.1 q1).1 (fun e => by have := (hr _ e.symm).1; omega)).trans q1
    exact ⟨(ownFrom_mono hJ (by omega)) s A A' row h2 hg hr, keep _ _ h3 (by omega), Nat.le_trans h5 hg.size⟩
  have H0 : J 0 W1 ∧ W1.heap[sb]? = some (.cells #[.func (.yield l) #[] #[]] 27 (0, 0)) ∧ W1.heap.size ≤ W1.heap.size := ⟨j1, y1, Nat.le_refl _⟩
  have HJ : Hid (OwnFrom W.heap.size J ∧ OwnFrom W.heap.size Jx ∧ W1.heap.size = W.heap.size + 1) := ⟨hJ, hJx, by omega⟩
  have HW := Lib.hid hW1
  have HY := Lib.hid hY
  clear hW1 gW y1 j1 hu h0 hJ hJx hY hW
  refine callsIn_wide.2 ?_
  show Calls Try.prog 85 #[.func (.yield l) #[] #[], .pointer (some ⟨cv, 0, none⟩)] W _
  refine calls_marks Try.func85 rfl ?_
  simp only [Try.ntmps85, List.size_toArray, List.length_cons, List.length_nil, Nat.reduceAdd, Nat.reduceSub, Array.replicate_succ, Array.replicate_zero, List.push_toArray, List.append_toArray, List.nil_append, List.cons_append]
  go_upto_region 1 with (fail)
  rw [HW.out]
  try rw [hsb]
  go_wp2_with fail
  refine wp_rangeOwn (gf := 70) (lb := #[.pointer (some ⟨cu, 0, none⟩), .pointer (some ⟨ct, 0, none⟩)]) (encs := enU T) (F := F) (c := 1) (N := N) (w0 := w) ?hg ?eg hall b1 ?ps (fun (k : Nat) V => J k V ∧ V.heap[sb]? = some (.cells #[.func (.yield l) #[] #[]] 27 (0, 0)) ∧ W1.heap.size ≤ V.heap.size) (fun c k V => c = .ret ∧ k < N ∧ Jx k V) hoI ?hix H0 ?round ?done ?stop
  case hg => rfl
  case eg => exact enters_of Try.func70 (by kernel_rfl) rfl
  case ps => exact fun _ => rfl
  case hix =>
    rintro c s A A' row ⟨h1, h2, h3⟩ hg hr
    exact ⟨h1, h2, (ownFrom_mono HJ.out.2.1 (by have := HJ.out.2.2; omega)) s A A' row h3 hg hr⟩
  case round =>
    intro l2 k Wk hks hi hz
    have hsz := hi.2.2
    have YY := HY.out k
    unfold enA at YY
    unfold enU
    generalize T.getD k (0, 0) = x at *
    obtain ⟨id, tm⟩ := x
    simp only [] at YY ⊢
    gi_wp2
    obtain ⟨W2, hW2⟩ : ∃ W2, Wk.alloc (.cells #[.int .i64 tm, .int .i64 id] 37) = W2 := ⟨_, rfl⟩
    have g2 : Grew Wk W2 := by rw [← hW2]; exact (Grew.refl Wk).alloc _
    have hi2 := hoI.alloc (.cells #[.int .i64 tm, .int .i64 id] 37) hi
    rw [hW2] at hi2
    have kb2 : W2.heap[Wk.heap.size]? = some (.cells #[.int .i64 tm, .int .i64 id] 37 (0, 0)) := by rw [← hW2]; exact heap_alloc_new _ _
    have s2 : Wk.heap.size ≤ W2.heap.size := g2.size
    rw [hW2]
    refine ⟨(g2.kept (fun _ => False)).from _ (fun _ x => x.elim), fun j o _ h _ => (g2.block (Array.getElem?_eq_some_iff.1 h).1).trans h, fun Wb hbz => ?_⟩
    have hi3 := hbz.own hoI hi2
    have kb3 : Wb.heap[Wk.heap.size]? = some (.cells #[.int .i64 tm, .int .i64 id] 37 (0, 0)) := hbz.own (s := 0) (cells_own rfl) kb2
    have klt := (Array.getElem?_eq_some_iff.1 kb3).1
    obtain ⟨h1, h2, h4⟩ := hi3
    have c1 : Wb.cell? ⟨sb, 0, none⟩ = some (.func (.yield l) #[] #[]) := by simp [World.cell?, h2]
    have c3 : Wb.cell? ⟨Wk.heap.size, 0, none⟩ = some (.int .i64 tm) := by simp [World.cell?, kb3]
    have c4 : Wb.cell? ⟨Wk.heap.size, 1, none⟩ = some (.int .i64 id) := by simp [World.cell?, kb3]
    obtain ⟨fn, tmps, assign, body, hy, hR⟩ := YY Wb hks h1 (by omega)
    have HH : Hid (Wb.heap[sb]? = some (.cells #[.func (.yield l) #[] #[]] 27 (0, 0)) ∧ W1.heap.size ≤ Wb.heap.size) := ⟨h2, h4⟩
    obtain ⟨kb, hkb⟩ : ∃ kb, Wk.heap.size = kb := ⟨_, rfl⟩
    rw [hkb] at c3 c4 ⊢
    clear h1 h2 h4 hi2 kb2 kb3 hi g2 hbz hW2 H0 YY hoI
    gi_wp2
    refine (RoundIn.any hR).mono ?_
    rintro e W3 ⟨kf, (⟨rfl, hJ3, hk3⟩ | ⟨rfl, hJx3⟩)⟩
    · have HF : Hid (KeepsFrom W1.heap.size Wb W3 ∧ KeepB F 1 (W1.heap.size + 2) Wb W3 ∧ J (k + 1) W3 ∧ W3.heap[sb]? = some (.cells #[.func (.yield l) #[] #[]] 27 (0, 0)) ∧ W1.heap.size ≤ W3.heap.size) := by
        refine ⟨keeps_mono kf (by omega), hk3.mono (fun j hj => ?_), hJ3, hk3 sb _ (.inr (by omega)) HH.out.1 rfl, Nat.le_trans HH.out.2 kf.size⟩
        rcases hj with e | e
        · exact .inl e
        · exact .inr (by omega)
      clear kf hJ3 hk3 HH hR hy
      gi_wp2
      exact HF.out
    · have HF : Hid (KeepsFrom W1.heap.size Wb W3 ∧ Jx k W3) := ⟨keeps_mono kf (by omega), hJx3⟩
      clear kf hJx3 HH hR hy
      gi_wp2
      exact ⟨HF.out.1, rfl, hks, HF.out.2⟩
  case done =>
    intro D W5 hD hi hdef
    have hj : J N (W5.putObj D (.deferred none)) := HJ.out.1.putObj _ hi.1 (by have := HJ.out.2.2; omega) hdef rfl
    have HF := Lib.hid hj
    clear hi hj hoI H0 HY
    go_wp2_with fail
    refine leave_one hdef ⟨.tuple #[], by simp [results, Try.f85, go_sem], ⟨_, rfl⟩, .inl HF.out⟩
  case stop =>
    intro D c k W5 hD hks hx hdef
    obtain ⟨rfl, _, hx⟩ := hx
    have hj := HJ.out.2.1.putObj (.deferred none) hx (by have := HJ.out.2.2; omega) hdef rfl
    have HF := Lib.hid hj
    clear hx hj hoI H0 HY
    go_wp2_with fail
    refine leave_one hdef ⟨.tuple #[], by simp [results, Try.f85, go_sem], ⟨_, rfl⟩, .inr ⟨k, hks, HF.out⟩⟩

theorem untilN_all (t : Int) : ∀ T : List Ent, (∀ x ∈ T, x.2 ≤ t) → untilN t T = T.length
  | [], _ => rfl
  | x :: r, h => by
    unfold untilN
    rw [if_pos (h x List.mem_cons_self), untilN_all t r (fun y hy => h y (List.mem_cons_of_mem _ hy))]
    rfl

set_option maxHeartbeats 1000000 in
set_option maxRecDepth 20000 in
theorem tarmed_any {B : Nat} {w : World} {tb : Nat} {q : QB} {m n o : Int} {L T : List Ent} (h : Ts B w tb q m n o L) (hT : T.Perm L) (hs : Sorted T) (hl : T.length < 1099511627776) :
    Calls Try.prog 48 #[.pointer (some ⟨tb, 0, none⟩)] w fun E w' => ∃ cv F, E = .returned (.func (.func 85) #[] #[.pointer (some ⟨cv, 0, none⟩)]) ∧ SeqOwn Try.prog 85 #[.pointer (some ⟨cv, 0, none⟩)] (enA T) F 4 T.length w' ∧ (∀ k, F k → w.heap.size ≤ k ∧ k < w'.heap.size) ∧ Kept (fun _ => False) w w' := by
  have hd : T.Pairwise (fun x y => x.1 ≠ y.1) := (List.Perm.pairwise_iff (R := fun x y : Ent => x.1 ≠ y.1) (fun h => h.symm) hT).2 h.diff
  have hN : untilN 1099511627776 T = T.length := untilN_all _ T (fun x hx => by have := timeE_may5 (h.good x (hT.mem_iff.1 hx)).1.2; omega)
  have C1 := Lib.hid (byTime_any h)
  have C2 := Lib.hid (quntil_any h.queue hT hs hd hl 1099511627776)
  rw [hN] at C2
  clear h hT hs hd hN
  go_enter Try.func48, Try.ntmps48
  go_wp2_with fail
  refine C1.out.mono ?_
  rintro e W1' ⟨rfl, rfl⟩
  go_wp2_with fail
  refine C2.out.mono ?_
  rintro e W1 ⟨cu, ct, F, rfl, hseq, hF, hk⟩
  obtain ⟨W3, hW3⟩ : ∃ W3, W1.alloc (.cells #[.func (.func 70) #[] #[.pointer (some ⟨cu, 0, none⟩), .pointer (some ⟨ct, 0, none⟩)]] 53) = W3 := ⟨_, rfl⟩
  have HF : Hid (SeqOwn Try.prog 85 #[.pointer (some ⟨W1.heap.size, 0, none⟩)] (enA T) F 4 T.length W3 ∧ (∀ k, F k → w.heap.size ≤ k ∧ k < W3.heap.size) ∧ Kept (fun _ => False) w W3) := by
    have g3 : Grew W1 W3 := by rw [← hW3]; exact (Grew.refl W1).alloc _
    have e3 : W3.heap[W1.heap.size]? = some (.cells #[.func (.func 70) #[] #[.pointer (some ⟨cu, 0, none⟩), .pointer (some ⟨ct, 0, none⟩)]] 53 (0, 0)) := by rw [← hW3]; exact heap_alloc_new _ _
    exact ⟨armed_own (hseq.later g3.below) (Array.getElem?_eq_some_iff.1 e3).1 (by simp [World.cell?, e3]), fun k hk' => ⟨(hF k hk').1, Nat.lt_of_lt_of_le (hF k hk').2 g3.size⟩, hk.trans (g3.kept _)⟩
  have HW3 := Lib.hid hW3
  clear hseq hF hk C1 C2 hW3
  go_wp2
  refine bodyPost_ret (v := .func (.func 85) #[] #[.pointer (some ⟨W1.heap.size, 0, none⟩)]) (by simp [results, Try.f48, go_sem]) rfl ?_
  rw [HW3.out]
  exact ⟨_, F, rfl, HF.out⟩
end Go.Proofs.Ytpglkakbiaihdaa
