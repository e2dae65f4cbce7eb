/-
  ready.Queue: the iterator of Until: those up to a time, in order, for a range over it.
-/
import Derived.Test.YtcipilggddpnpaaQh
import Derived.Test.YtcipilggddpnpaaRn2
namespace Go.Proofs.Ytcipilggddpnpaa
open Go.RowKit Go.Sort Go.Shelf Go.Maps
set_option linter.unusedVariables false
set_option linter.unusedSimpArgs false
attribute [local go_sem] Oper.semAt_some

/-- How many of them are no later than t. -/
def untilN (t : Int) : List Ent → Nat
  | [] => 0
  | x :: r => if x.2 ≤ t then untilN t r + 1 else 0
theorem untilN_le (t : Int) : ∀ T : List Ent, untilN t T ≤ T.length
  | [] => Nat.le_refl _
  | x :: r => by
    unfold untilN
    have := untilN_le t r
    split <;> simp <;> omega
theorem untilN_lt (t : Int) : ∀ (T : List Ent) (k : Nat), k < untilN t T → (T.getD k (0, 0)).2 ≤ t
  | [], k, h => absurd h (Nat.not_lt_zero _)
  | x :: r, k, h => by
    unfold untilN at h
    split at h
    · rename_i hx
      cases k with
      | zero => exact hx
      | succ k => exact untilN_lt t r k (by omega)
    · omega
theorem untilN_at (t : Int) : ∀ (T : List Ent), untilN t T < T.length → t < (T.getD (untilN t T) (0, 0)).2
  | [], h => absurd h (Nat.not_lt_zero _)
  | x :: r, h => by
    unfold untilN at h ⊢
    split at h
    · rename_i hx
      rw [if_pos hx]
      exact untilN_at t r (by simpa using h)
    · rename_i hx
      rw [if_neg hx]
      show t < x.2
      omega

/-- All's iterator, whatever else its caller has. -/
theorem all_own (B c : Nat) (S : List K.Ent) (hlen : S.length ≤ 1099511627776) (w : World) (h : K.SeqAt B c S w) :
    ∃ rb, B ≤ rb ∧ rb < w.heap.size ∧ c < w.heap.size ∧ SeqOwn Try.prog 77 #[.pointer (some ⟨c, 0, none⟩)] (K.enN S) (fun k => k = c ∨ k = rb) 0 S.length w := by
  obtain ⟨hB, rv, hcell, hrv⟩ := h
  have hc : c < w.heap.size := (Array.getElem?_eq_some_iff.1 hcell).1
  rcases hrv with ⟨rfl, rfl⟩ | ⟨rb, cap, hBr, hne, rfl, hrow⟩
  · refine ⟨c, hB, hc, hc, fun l J Jx W hW hJ hJx hY h0 => ?_⟩
    have hcW := (hW.block c hc).trans hcell
    exact (K.all1_nth_nil l c J W (by simp [World.cell?, hcW]) h0).mono fun e W' ⟨he, hj⟩ => ⟨he, .inl hj⟩
  · refine ⟨rb, hBr, hrow.lt, hc, fun l J Jx W hW hJ hJx hY h0 => ?_⟩
    have hcW := (hW.block c hc).trans hcell
    have hrW := hrow.kept (hW.block rb hrow.lt)
    obtain ⟨⟨cur, hcur, _⟩, _⟩ := hrW
    have kept : ∀ {A A' : World} {row : Option Nat} (j : Nat) (o : Obj), A.heap[j]? = some o → j < W.heap.size → A.grownBy A' row → (∀ r, row = some r → W.heap.size ≤ r ∧ ∃ o : Obj, A.heap[r]? = some o ∧ o.isWalk = true) → A'.heap[j]? = some o := fun j o h1 h2 hg hr =>
      (hg.block j (Array.getElem?_eq_some_iff.1 h1).1 (fun e => by have := (hr _ e.symm).1; omega)).trans h1
    have hcl : c < W.heap.size := (Array.getElem?_eq_some_iff.1 hcW).1
    have hrl : rb < W.heap.size := (Array.getElem?_eq_some_iff.1 hcur).1
    refine (K.all1_nth c rb cap S hlen l (fun k V => J k V ∧ W.heap.size ≤ V.heap.size ∧ V.heap[c]? = some (.cells #[.slice (some ⟨rb, 0, none⟩) S.length cap] 104 (0, 0)) ∧ V.heap[rb]? = W.heap[rb]?) Jx W hcl hrl ?_ ?_ hcW (hrow.kept (hW.block rb hrow.lt)) ⟨h0, Nat.le_refl _, hcW, rfl⟩).mono ?_
    · rintro s A A' row ⟨h1, h2, h3, h4⟩ hg hr
      exact ⟨ownFrom_abides hJ s A A' row h1 hg hr, Nat.le_trans h2 hg.size, kept c _ h3 hcl hg hr, (kept rb _ (h4.trans hcur) hrl hg hr).trans hcur.symm⟩
    · rintro k W1 hk ⟨h1, h2, h3, h4⟩
      obtain ⟨fn, tmps, assign, body, hy, hR⟩ := hY k W1 hk h1 h2
      refine ⟨fn, tmps, assign, body, hy, hR.mono ?_⟩
      rintro e W' ⟨kf, ⟨rfl, hj, hkb⟩ | ⟨rfl, hx⟩⟩
      · have e3 := hkb c _ (.inl (.inl rfl)) h3 rfl
        have e4 := hkb rb _ (.inl (.inr rfl)) (h4.trans hcur) rfl
        exact .inl ⟨rfl, ⟨hj, Nat.le_trans h2 kf.size, e3, e4.trans hcur.symm⟩, e3.trans h3.symm, e4.trans (h4.trans hcur).symm⟩
      · exact .inr ⟨rfl, hx⟩
    · rintro e W' ⟨he, ⟨hj, _⟩ | hx⟩
      · exact ⟨he, .inl hj⟩
      · exact ⟨he, .inr hx⟩

/-- What Until's yield is handed in round k. -/
def enU (T : List Ent) (k : Nat) : Array Value := #[.agg #[.int .i64 (T.getD k (0, 0)).2, .int .i64 (T.getD k (0, 0)).1]]

set_option maxHeartbeats 2000000 in
set_option maxRecDepth 100000 in
theorem until_own {T : List Ent} {t : Int} (hlen : T.length ≤ 1099511627776) {w : World} {B cb cu ct : Nat} (hseq : K.SeqAt B cb (T.map kN) w) (hcu : cu < w.heap.size)
    (hu : w.cell? ⟨cu, 0, none⟩ = some (.func (.func 77) #[] #[.pointer (some ⟨cb, 0, none⟩)])) (hct : w.heap[ct]? = some (.cells #[.int .i64 t] 3 (0, 0))) :
    ∃ rb, B ≤ rb ∧ rb < w.heap.size ∧ SeqOwn Try.prog 52 #[.pointer (some ⟨cu, 0, none⟩), .pointer (some ⟨ct, 0, none⟩)] (enU T) (fun k => k = cb ∨ k = rb ∨ k = ct) 1 (untilN t T) w := by
  obtain ⟨rb, r1, r2, r3, hall⟩ := all_own B cb (T.map kN) (by rw [List.length_map]; exact hlen) w hseq
  refine ⟨rb, r1, r2, fun l J Jx W hW hJ hJx hY h0 => ?_⟩
  have hctl : ct < w.heap.size := (Array.getElem?_eq_some_iff.1 hct).1
  obtain ⟨W1, hW1⟩ : ∃ W1, W.alloc (.cells #[.func (.yield l) #[] #[]] 38) = W1 := ⟨_, rfl⟩
  have gW : Grew W W1 := by rw [← hW1]; exact (Grew.refl W).alloc _
  have y1 : W1.heap[W.heap.size]? = some (.cells #[.func (.yield l) #[] #[]] 38 (0, 0)) := by rw [← hW1]; exact heap_alloc_new _ _
  have j1 : J 0 W1 := by rw [← hW1]; exact hJ.alloc _ h0
  have z1 : W1.heap.size = W.heap.size + 1 := by rw [← hW1]; simp
  have b1 : Below w.heap.size w W1 := hW.trans (gW.below.mono hW.size)
  have u1 : W1.cell? ⟨cu, 0, none⟩ = some (.func (.func 77) #[] #[.pointer (some ⟨cb, 0, none⟩)]) := (b1.cell (p := ⟨cu, 0, none⟩) hcu).trans hu
  have t1 : W1.heap[ct]? = some (.cells #[.int .i64 t] 3 (0, 0)) := (b1.block ct hctl).trans hct
  have hctW : ct < W.heap.size := Nat.lt_of_lt_of_le hctl hW.size
  obtain ⟨sb, hsb⟩ : ∃ sb, W.heap.size = sb := ⟨_, rfl⟩
  rw [hsb] at y1 z1 hctW hY
  have hoI : OwnFrom W1.heap.size (fun (k : Nat) V => k ≤ untilN t T ∧ J k V ∧ V.heap[sb]? = some (.cells #[.func (.yield l) #[] #[]] 38 (0, 0)) ∧ V.heap[ct]? = some (.cells #[.int .i64 t] 3 (0, 0)) ∧ W1.heap.size ≤ V.heap.size) := by
    rintro s A A' row ⟨h1, h2, h3, h4, h5⟩ hg hr
    have keep : ∀ (j : Nat) (o : Obj), A.heap[j]? = some o → j < W1.heap.size → A'.heap[j]? = some o := fun j o q1 q2 => (hg.block j (Array.getElem?_eq_some_iff.1 q1).1 (fun e => by have := (hr _ e.symm).1; omega)).trans q1
    exact ⟨h1, (ownFrom_mono hJ (by omega)) s A A' row h2 hg hr, keep _ _ h3 (by omega), keep _ _ h4 (by omega), Nat.le_trans h5 hg.size⟩
  have H0 : 0 ≤ untilN t T ∧ J 0 W1 ∧ W1.heap[sb]? = some (.cells #[.func (.yield l) #[] #[]] 38 (0, 0)) ∧ W1.heap[ct]? = some (.cells #[.int .i64 t] 3 (0, 0)) ∧ W1.heap.size ≤ W1.heap.size := ⟨Nat.zero_le _, j1, y1, t1, Nat.le_refl _⟩
  have HJ : Hid (OwnFrom W.heap.size J ∧ OwnFrom W.heap.size Jx ∧ W1.heap.size = W.heap.size + 1) := ⟨hJ, hJx, by omega⟩
  have HW := Lib.hid hW1
  have HY := Lib.hid hY
  clear hW1 gW y1 j1 t1 hct hu hseq h0 hJ hJx hY hW
  refine callsIn_wide.2 ?_
  show Calls Try.prog 52 #[.func (.yield l) #[] #[], .pointer (some ⟨cu, 0, none⟩), .pointer (some ⟨ct, 0, none⟩)] W _
  refine calls_marks Try.func52 rfl ?_
  simp only [Try.ntmps52, List.size_toArray, List.length_cons, List.length_nil, Nat.reduceAdd, Nat.reduceSub, Array.replicate_succ, Array.replicate_zero, List.push_toArray, List.append_toArray, List.nil_append, List.cons_append]
  go_upto_region 1 with (fail)
  rw [HW.out]
  try rw [hsb]
  go_wp2_with fail
  refine wp_rangeOwn (gf := 77) (lb := #[.pointer (some ⟨cb, 0, none⟩)]) (encs := K.enN (T.map kN)) (F := fun k => k = cb ∨ k = rb) (c := 0) (N := (T.map kN).length) (w0 := w) ?hg ?eg hall b1 ?ps (fun (k : Nat) V => k ≤ untilN t T ∧ J k V ∧ V.heap[sb]? = some (.cells #[.func (.yield l) #[] #[]] 38 (0, 0)) ∧ V.heap[ct]? = some (.cells #[.int .i64 t] 3 (0, 0)) ∧ W1.heap.size ≤ V.heap.size) (fun c k V => c = .ret ∧ ((k = untilN t T ∧ J k V) ∨ (k < untilN t T ∧ Jx k V))) hoI ?hix H0 ?round ?done ?stop
  case hg => rfl
  case eg => exact enters_of Try.func77 (by kernel_rfl) rfl
  case ps => exact fun _ => rfl
  case hix =>
    rintro c s A A' row ⟨h1, h2 | h2⟩ hg hr
    · exact ⟨h1, .inl ⟨h2.1, (ownFrom_mono HJ.out.1 (by have := HJ.out.2.2; omega)) s A A' row h2.2 hg hr⟩⟩
    · exact ⟨h1, .inr ⟨h2.1, (ownFrom_mono HJ.out.2.1 (by have := HJ.out.2.2; omega)) s A A' row h2.2 hg hr⟩⟩
  case round =>
    intro l2 k Wk hks hi hz
    have e1 : K.rid (T.map kN) k = (T.getD k (0, 0)).1 := by unfold K.rid; rw [getD_kN]; rfl
    have e2 : K.rky (T.map kN) k = ((T.getD k (0, 0)).2, (T.getD k (0, 0)).1) := by unfold K.rky; rw [getD_kN]; rfl
    have hkl : k < T.length := by simpa using hks
    have hsz := hi.2.2.2.2
    have YY := HY.out k
    unfold enU at YY
    have LT := untilN_lt t T k
    have AT := fun h : k = untilN t T => untilN_at t T (h ▸ hkl)
    unfold K.enN
    rw [e1, e2]
    clear e1 e2
    by_cases hN : k < untilN t T
    · have htm := LT hN
      clear AT LT
      generalize T.getD k (0, 0) = x at *
      obtain ⟨id, tm⟩ := x
      simp only [] at htm YY ⊢
      gi_wp2
      obtain ⟨W2, hW2⟩ : ∃ W2, Wk.alloc (.cells #[.int .i64 tm, .int .i64 id] 37) = W2 := ⟨_, rfl⟩
      have g2 : Grew Wk W2 := by rw [← hW2]; exact (Grew.refl Wk).alloc _
      have hi2 := hoI.alloc (.cells #[.int .i64 tm, .int .i64 id] 37) hi
      rw [hW2] at hi2
      have kb2 : W2.heap[Wk.heap.size]? = some (.cells #[.int .i64 tm, .int .i64 id] 37 (0, 0)) := by rw [← hW2]; exact heap_alloc_new _ _
      rw [hW2]
      refine ⟨(g2.kept (fun _ => False)).from _ (fun _ x => x.elim), fun j o _ h _ => (g2.block (Array.getElem?_eq_some_iff.1 h).1).trans h, fun Wb hbz => ?_⟩
      have hi3 := hbz.own hoI hi2
      have kb3 : Wb.heap[Wk.heap.size]? = some (.cells #[.int .i64 tm, .int .i64 id] 37 (0, 0)) := hbz.own (s := 0) (cells_own rfl) kb2
      obtain ⟨h0, h1, h2, h3, h4⟩ := hi3
      have c1 : Wb.cell? ⟨sb, 0, none⟩ = some (.func (.yield l) #[] #[]) := by simp [World.cell?, h2]
      have c2 : Wb.cell? ⟨ct, 0, none⟩ = some (.int .i64 t) := by simp [World.cell?, h3]
      have c3 : Wb.cell? ⟨Wk.heap.size, 0, none⟩ = some (.int .i64 tm) := by simp [World.cell?, kb3]
      have c4 : Wb.cell? ⟨Wk.heap.size, 1, none⟩ = some (.int .i64 id) := by simp [World.cell?, kb3]
      have t1 : decide (tm > t) = false := decide_eq_false (by omega)
      have t2 : decide (t < tm) = false := decide_eq_false (by omega)
      obtain ⟨fn, tmps, assign, body, hy, hR⟩ := YY Wb hN h1 (by omega)
      have HH : Hid (Wb.heap[sb]? = some (.cells #[.func (.yield l) #[] #[]] 38 (0, 0)) ∧ Wb.heap[ct]? = some (.cells #[.int .i64 t] 3 (0, 0)) ∧ W1.heap.size ≤ Wb.heap.size) := ⟨h2, h3, h4⟩
      obtain ⟨kb, hkb⟩ : ∃ kb, Wk.heap.size = kb := ⟨_, rfl⟩
      rw [hkb] at c3 c4 ⊢
      clear h0 h1 h2 h3 h4 hi2 kb2 kb3 hi g2 hbz hW2 H0 YY hoI
      gi_wp2
      refine (RoundIn.any hR).mono ?_
      rintro e W3 ⟨kf, (⟨rfl, hJ3, hk3⟩ | ⟨rfl, hJx3⟩)⟩
      · have HF : Hid (KeepsFrom W1.heap.size Wb W3 ∧ KeepB (fun k => k = cb ∨ k = rb) 0 (W1.heap.size + 2) Wb W3 ∧ k + 1 ≤ untilN t T ∧ J (k + 1) W3 ∧ W3.heap[sb]? = some (.cells #[.func (.yield l) #[] #[]] 38 (0, 0)) ∧ W3.heap[ct]? = some (.cells #[.int .i64 t] 3 (0, 0)) ∧ W1.heap.size ≤ W3.heap.size) := by
          refine ⟨keeps_mono kf (by omega), hk3.mono (fun j hj => ?_), by omega, hJ3, hk3 sb _ (.inr (by omega)) HH.out.1 rfl, hk3 ct _ (.inl (.inr (.inr rfl))) HH.out.2.1 rfl, Nat.le_trans HH.out.2.2 kf.size⟩
          rcases hj with (e | e) | e
          · exact .inl (.inl e)
          · exact .inl (.inr (.inl e))
          · omega
        clear kf hJ3 hk3 HH hR hy
        gi_wp2
        exact HF.out
      · have HF : Hid (KeepsFrom W1.heap.size Wb W3 ∧ Jx k W3) := ⟨keeps_mono kf (by omega), hJx3⟩
        clear kf hJx3 HH hR hy
        gi_wp2
        exact ⟨HF.out.1, rfl, .inr ⟨hN, HF.out.2⟩⟩
    · have hkN : k = untilN t T := by have := hi.1; omega
      have htm := AT hkN
      rw [← hkN] at htm
      clear AT LT YY
      generalize T.getD k (0, 0) = x at *
      obtain ⟨id, tm⟩ := x
      simp only [] at htm ⊢
      gi_wp2
      obtain ⟨W2, hW2⟩ : ∃ W2, Wk.alloc (.cells #[.int .i64 tm, .int .i64 id] 37) = W2 := ⟨_, rfl⟩
      have g2 : Grew Wk W2 := by rw [← hW2]; exact (Grew.refl Wk).alloc _
      have hi2 := hoI.alloc (.cells #[.int .i64 tm, .int .i64 id] 37) hi
      rw [hW2] at hi2
      have kb2 : W2.heap[Wk.heap.size]? = some (.cells #[.int .i64 tm, .int .i64 id] 37 (0, 0)) := by rw [← hW2]; exact heap_alloc_new _ _
      rw [hW2]
      refine ⟨(g2.kept (fun _ => False)).from _ (fun _ x => x.elim), fun j o _ h _ => (g2.block (Array.getElem?_eq_some_iff.1 h).1).trans h, fun Wb hbz => ?_⟩
      have hi3 := hbz.own hoI hi2
      have kb3 : Wb.heap[Wk.heap.size]? = some (.cells #[.int .i64 tm, .int .i64 id] 37 (0, 0)) := hbz.own (s := 0) (cells_own rfl) kb2
      obtain ⟨h0, h1, h2, h3, h4⟩ := hi3
      have c2 : Wb.cell? ⟨ct, 0, none⟩ = some (.int .i64 t) := by simp [World.cell?, h3]
      have c3 : Wb.cell? ⟨Wk.heap.size, 0, none⟩ = some (.int .i64 tm) := by simp [World.cell?, kb3]
      have t1 : decide (tm > t) = true := decide_eq_true (by omega)
      have t2 : decide (t < tm) = true := decide_eq_true (by omega)
      have HF : Hid (J k Wb) := h1
      clear h0 h1 h2 h3 h4 hi2 kb2 kb3 hi g2 hbz hW2 H0 hoI
      gi_wp2
      refine ⟨(fun f hf => by cases hf), ?_⟩
      gi_wp2
      exact ⟨KeepsFrom.refl _ _, rfl, .inl ⟨hkN, HF.out⟩⟩
  case done =>
    intro D W5 hD hi hdef
    have hN : untilN t T = (T.map kN).length := by
      have h1 := hi.1
      have h2 := untilN_le t T
      rw [List.length_map] at h1 ⊢
      omega
    have hj : J (untilN t T) (W5.putObj D (.deferred none)) := by
      rw [hN]
      exact HJ.out.1.putObj _ hi.2.1 (by have := HJ.out.2.2; omega) hdef rfl
    have HF := Lib.hid hj
    clear hi hj hoI H0 HY
    go_wp2_with fail
    refine leave_one hdef ⟨.tuple #[], by simp [results, Try.f52, go_sem], ⟨_, rfl⟩, .inl HF.out⟩
  case stop =>
    intro D c k W5 hD hks hx hdef
    obtain ⟨rfl, hx⟩ := hx
    have hj : J (untilN t T) (W5.putObj D (.deferred none)) ∨ ∃ k, k < untilN t T ∧ Jx k (W5.putObj D (.deferred none)) := by
      rcases hx with ⟨h1, h2⟩ | ⟨h1, h2⟩
      · rw [← h1]
        exact .inl (HJ.out.1.putObj _ h2 (by have := HJ.out.2.2; omega) hdef rfl)
      · exact .inr ⟨k, h1, HJ.out.2.1.putObj _ h2 (by have := HJ.out.2.2; omega) hdef rfl⟩
    have HF := Lib.hid hj
    clear hx hj hoI H0 HY
    go_wp2_with fail
    refine leave_one hdef ⟨.tuple #[], by simp [results, Try.f52, go_sem], ⟨_, rfl⟩, HF.out⟩
end Go.Proofs.Ytcipilggddpnpaa
