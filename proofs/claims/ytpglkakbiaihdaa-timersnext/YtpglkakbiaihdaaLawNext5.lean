/-
  TimersNext: its walk.
-/
import Derived.Test.YtpglkakbiaihdaaTx3
import Derived.Test.YtpglkakbiaihdaaTx3
import Derived.Deep.Cut
namespace Go.Proofs.Ytpglkakbiaihdaa
open Go.RowKit Go.Shelf Go.Maps
set_option linter.unusedVariables false
set_option linter.unusedSimpArgs false
attribute [local go_sem] Oper.semAt_some

set_option maxHeartbeats 2000000 in
set_option maxRecDepth 20000 in
theorem next5_long (a : Option Addr) (n cap : Nat) (hn : 60 < n) (w : World) :
    Calls Try.prog 10 #[.slice a n cap] w fun E w' => E = .returned (.bool true) ∧ Below w.heap.size w w' := by
  have CW : ∀ W, Hid (Calls Try.prog 37 #[] W fun E w' => E = .returned (.bool true) ∧ Below W.heap.size W w') := fun W => awake5 W
  have CF : ∀ W, Hid (Calls Try.prog 38 #[.slice a n cap] W fun e w' => e = .returned (.bool (decide (n ≤ 60))) ∧ w' = W) := fun W => few5_any a n cap W
  have C1 := Lib.hid (tnew_any 0 w (Nat.zero_le _) 20 (by decide) (by decide))
  have t4 : decide (n ≤ 60) = false := decide_eq_false (by omega)
  go_enter Try.func10, Try.ntmps10
  go_wp2_with fail
  refine C1.out.mono ?_
  rintro E w1 ⟨tb, q1, rfl, t1', g1, _, _⟩
  have T1 : Hid (Below w.heap.size w w1) := g1.below
  clear t1' g1 C1
  go_wp2_with fail
  refine (CF _).out.mono ?_
  rintro E w1' ⟨rfl, rfl⟩
  go_wp2_with fail
  refine (CW _).out.mono ?_
  rintro E w5 ⟨rfl, b5⟩
  go_wp2
  go_ret
  exact ⟨rfl, T1.out.trans (b5.mono T1.out.size)⟩

/-- The least time of the first k. -/
def leastK (S : List Ent) (k : Nat) : Int := if k = 0 then 0 else (S.getD 0 (0, 0)).2
/-- Between two rounds: how many, and the least time. -/
def NextI (W8 : World) (nb lb : Nat) (S : List Ent) (k : Nat) (W : World) : Prop := Kept (fun i => i = nb ∨ i = lb) W8 W ∧ NumAt W nb k ∧ NumAt W lb (leastK S k)
theorem nextI_own {W8 : World} {nb lb : Nat} {S : List Ent} (h1 : nb < W8.heap.size) (h2 : lb < W8.heap.size) : OwnFrom W8.heap.size (NextI W8 nb lb S) := fun k A B row hs hg hr => by
  obtain ⟨p1, p2, p3⟩ := hs
  have keep : ∀ (j : Nat) (o : Obj), A.heap[j]? = some o → j < W8.heap.size → B.heap[j]? = some o := fun j o q1 q2 => (hg.block j (Array.getElem?_eq_some_iff.1 q1).1 (fun e => by have := (hr _ e.symm).1; omega)).trans q1
  exact ⟨p1.grown hg (fun i e => .inr (hr i e).1), keep _ _ p2 h1, keep _ _ p3 h2⟩
theorem NumAt.far {W : World} {b c : Nat} {k : Int} (h : NumAt W b k) (hne : b ≠ c) (v : Value) : NumAt (W.setCell ⟨c, 0, none⟩ v) b k := (Below.heap_setCell _ _ _ _ hne).trans h
theorem NumAt.grew {W W' : World} {b : Nat} {k : Int} (h : NumAt W b k) (g : Grew W W') : NumAt W' b k := (g.block (Array.getElem?_eq_some_iff.1 h).1).trans h
theorem sorted_first_le {S : List Ent} (hs : Sorted S) {k : Nat} (hk : k < S.length) : (S.getD 0 (0, 0)).2 ≤ (S.getD k (0, 0)).2 := by
  by_cases h0 : k = 0
  · subst h0; exact Int.le_refl _
  · have := sorted_getD hs (i := 0) (j := k) (by omega) hk
    rw [ah_eq] at this
    simp only [decide_eq_true_eq] at this
    omega

/-- What there is behind the range. -/
structure NextF (w W : World) (tb : Nat) (q : QB) (n o : Int) (S : List Ent) (nb lb D : Nat) : Prop where
  ts : Ts 0 W tb q 20 n o S
  num : NumAt W nb S.length
  least : NumAt W lb (leastK S S.length)
  mark : W.heap[D]? = some (.deferred (some []))
  low : Below w.heap.size w W
theorem NextF.lies {w W W' : World} {tb : Nat} {q : QB} {n o : Int} {S : List Ent} {nb lb D : Nat} (h : NextF w W tb q n o S nb lb D) (b : Below W.heap.size W W') : NextF w W' tb q n o S nb lb D :=
  ⟨h.ts.lies b, (b.block _ (Array.getElem?_eq_some_iff.1 h.num).1).trans h.num, (b.block _ (Array.getElem?_eq_some_iff.1 h.least).1).trans h.least, (b.block _ (Array.getElem?_eq_some_iff.1 h.mark).1).trans h.mark, h.low.trans (b.mono h.low.size)⟩

theorem below_put {B : Nat} {w W : World} {D : Nat} {o : Obj} (h : Below B w W) (hD : B ≤ D) : Below B w (W.putObj D o) :=
  ⟨h.os, h.tape, h.output, by simp [World.putObj]; exact h.size, fun k hk => (World.putObj_heap_other (by omega)).trans (h.block k hk)⟩
/-- What the second step of the copy's clock takes away begins with the first one. -/
theorem due_head {t o o' : Int} {S L D Lc : List Ent} (hs : Sorted S) (h0 : 0 < S.length) (hp : L.Perm S) (h : DueI t o L D Lc o') (hl : ∀ y ∈ Lc, t < y.2) (ht : (S.getD 0 (0, 0)).2 ≤ t) : 0 < D.length ∧ (D.getD 0 (0, 0)).2 = (S.getD 0 (0, 0)).2 := by
  have hm : S.getD 0 (0, 0) ∈ S := (first_of hs h0).1
  have hD : S.getD 0 (0, 0) ∈ D := by
    rcases List.mem_append.1 (h.perm.mem_iff.1 (hp.mem_iff.2 hm)) with e | e
    · exact e
    · have := hl _ e
      omega
  have hpos : 0 < D.length := List.length_pos_of_mem hD
  refine ⟨hpos, ?_⟩
  have hm0 := (mem_getD5 hpos).1
  have hS0 : D.getD 0 (0, 0) ∈ S := hp.mem_iff.1 (h.perm.mem_iff.2 (List.mem_append_left _ hm0))
  obtain ⟨i, hi, ei⟩ := List.getElem_of_mem hS0
  obtain ⟨j, hj, ej⟩ := List.getElem_of_mem hD
  have a1 := sorted_first_le hs hi
  have a2 := sorted_first_le h.sorted hj
  rw [List.getD_eq_getElem?_getD (l := S) (i := i), List.getElem?_eq_getElem hi] at a1
  rw [List.getD_eq_getElem?_getD (l := D) (i := j), List.getElem?_eq_getElem hj] at a2
  simp only [Option.getD_some] at a1 a2
  rw [ei] at a1
  rw [ej] at a2
  omega

set_option maxHeartbeats 8000000 in
set_option maxRecDepth 100000 in
theorem next5_core (a : Option Addr) (n cap : Nat) (hn : n ≤ 60) (V : Nat → Int × Int × Int) (w : World) (hv : Ops5At w a n V) :
    Calls Try.prog 10 #[.slice a n cap] w fun E w' => E = .returned (.bool true) ∧ Below w.heap.size w w' := by
  have mixed : Try.prog.follows .mixedOrders = true := by kernel_rfl
  have hnf : ∀ (f : Fn) (b c : Array Value) (w : World), (binOp .eql 34 (.func f b c) Value.nilFunc).run Try.prog w = .ok (.bool false) w := fun _ _ _ _ => rfl
  have CW : ∀ W, Hid (Calls Try.prog 37 #[] W fun E w' => E = .returned (.bool true) ∧ Below W.heap.size W w') := fun W => awake5 W
  have CF : ∀ W, Hid (Calls Try.prog 38 #[.slice a n cap] W fun e w' => e = .returned (.bool (decide (n ≤ 60))) ∧ w' = W) := fun W => few5_any a n cap W
  have C1 := Lib.hid (tnew_any 0 w (Nat.zero_le _) 20 (by decide) (by decide))
  have HV := Lib.hid hv
  clear hv
  have t4 : decide (n ≤ 60) = true := decide_eq_true hn
  refine calls_marks Try.func10 rfl ?_
  simp only [Try.ntmps10, List.size_toArray, List.length_cons, List.length_nil, Nat.reduceAdd, Nat.reduceSub, Array.replicate_succ, Array.replicate_zero, List.push_toArray, List.append_toArray, List.nil_append, List.cons_append]
  go_wp2_with fail
  refine C1.out.mono ?_
  rintro E w1 ⟨tb, q1, rfl, t1', g1, o1, o2⟩
  have T1 : Hid ((Ts 0 w1 tb q1 20 0 0 [] ∧ Below w.heap.size w w1) ∧ w.heap.size ≤ tb ∧ ∀ k, q1.own k → w.heap.size ≤ k) := ⟨⟨t1', g1.below⟩, o1, o2⟩
  clear t1' g1 C1 o1 o2
  go_wp2_with fail
  refine (CF _).out.mono ?_
  rintro E w1' ⟨rfl, rfl⟩
  have C2 := Lib.hid (rnew5 w.heap.size w1' T1.out.1.2.size 20)
  go_wp2_with fail
  refine C2.out.mono ?_
  rintro E w2 ⟨rq, rh, rfl, r2, g2, hrh⟩
  have T2 : Hid (At5 w.heap.size w w2 tb 20 rq rh 0) := at5_new T1.out.1.1 T1.out.1.2 T1.out.2.1 T1.out.2.2 r2 g2.below
  have HRH := Lib.hid hrh
  clear r2 g2 T1 C2 hrh
  go_wp2_with fail
  go_loopg [6] n (fun gk s6 wr => ∃ i : Nat, s6 = .int .i64 i ∧ i ≤ n ∧ n - i ≤ gk ∧ Hid (At5 w.heap.size w wr tb 20 rq rh i))
  case atStart => exact ⟨0, rfl, Nat.zero_le _, Nat.le_refl _, T2⟩
  case round =>
    rename World => W2
    obtain ⟨i, rfl, hi, hgk, HR⟩ := hrel
    clear T2
    by_cases hlt : i < n
    · have d1 : decide ((i : Int) < (n : Int)) = true := decide_eq_true (by omega)
      have d2 : decide (i < n) = true := decide_eq_true hlt
      have d3 : (i : Int) < (n : Int) := by omega
      rcases HV.out.below HR.out.low with hz | ⟨g, o, rfl, hg, hc⟩
      · omega
      obtain ⟨⟨c0, c1, c2⟩, hx⟩ := hc i hlt
      have CD := Lib.hid (HR.out.does HRH.out (by omega) (V i).1 (V i).2.1 (V i).2.2 hx.2)
      clear hc hg hx HR
      generalize V i = v at *
      obtain ⟨v1, v2, v3⟩ := v
      simp only [] at c0 c1 c2 CD
      go_wp2_with fail
      refine CD.out.mono ?_
      rintro E w3 ⟨rfl, h3⟩
      have H3 := Lib.hid h3
      clear h3 CD c0 c1 c2
      go_wp2
      go_roundg (n - (i + 1))
      case measure => omega
      case rel => exact ⟨i + 1, by go_num, by omega, Nat.le_refl _, H3⟩
    · obtain rfl : i = n := by omega
      have d1 : decide ((i : Int) < (i : Int)) = false := decide_eq_false (by omega)
      have d2 : decide (i < i) = false := decide_eq_false (by omega)
      obtain ⟨q, nw, o, S, hp, hS, hlow, hnw⟩ := HR.out
      have P := Lib.hid hp
      have HS : Hid (S.length ≤ 60 ∧ Below w.heap.size w W2 ∧ timeE nw = 0) := ⟨by omega, hlow, hnw⟩
      clear hp hS hlow hnw HR hgk
      have CA := Lib.hid (tarmed_any P.out.ts (List.Perm.refl S) P.out.sorted (by have := HS.out.1; omega))
      go_wp2_with fail
      refine CA.out.mono ?_
      rintro E w3 ⟨cv, F, rfl, hseq, hF, hk⟩
      have P3 : Hid (Pt w.heap.size w3 tb q 20 nw o rq rh S ∧ Below w.heap.size w w3 ∧ (∀ k, F k → k < w3.heap.size)) :=
        ⟨P.out.lies (hk.below (Nat.le_refl _) (fun _ x => x.elim)), HS.out.2.1.trans (hk.below HS.out.2.1.size (fun _ x => x.elim)), fun k hk' => (hF k hk').2⟩
      have SQ := Lib.hid hseq
      clear hseq hF hk CA P
      obtain ⟨at_, e, hae⟩ : ∃ a e : Int, if S.length = 0 then a = 0 ∧ e = 14 else a = (S.getD 0 (0, 0)).2 ∧ e = 0 := by
        by_cases h0 : S.length = 0
        · exact ⟨0, 14, by rw [if_pos h0]; exact ⟨rfl, rfl⟩⟩
        · exact ⟨_, 0, by rw [if_neg h0]; exact ⟨rfl, rfl⟩⟩
      have CN := Lib.hid (tnext_gen P3.out.1.ts P3.out.1.sorted at_ e hae)
      have HAE := Lib.hid hae
      clear hae
      go_wp2_with fail
      refine CN.out.mono ?_
      rintro E w4 ⟨rfl, g4⟩
      obtain ⟨W8, hW8⟩ : ∃ W8, (w4.alloc (.cells #[.int .i64 0] 3)).alloc (.cells #[.int .i64 0] 3) = W8 := ⟨_, rfl⟩
      have g8 : Grew w4 W8 := by rw [← hW8]; exact ((Grew.refl w4).alloc _).alloc _
      have e1 : NumAt W8 w4.heap.size 0 := by
        unfold NumAt
        rw [← hW8, Below.heap_alloc _ _ _ (by simp)]
        exact heap_alloc_new _ _
      have e2 : NumAt W8 (w4.heap.size + 1) 0 := by
        unfold NumAt
        rw [← hW8]
        have := heap_alloc_new (w4.alloc (.cells #[.int .i64 0] 3)) (.cells #[.int .i64 0] 3)
        simpa using this
      have z8 : W8.heap.size = w4.heap.size + 2 := by rw [← hW8]; simp
      have g38 : Grew w3 W8 := g4.trans g8
      have P8 : Hid (Pt w.heap.size W8 tb q 20 nw o rq rh S ∧ Below w.heap.size w W8 ∧ (∀ k, F k → k < w4.heap.size) ∧ W8.heap.size = w4.heap.size + 2 ∧ (∀ k, q.own k ∨ k = tb → k < w4.heap.size) ∧ w.heap.size ≤ w4.heap.size) :=
        ⟨P3.out.1.lies g38.below, P3.out.2.1.trans (g38.below.mono P3.out.2.1.size), fun k hk => Nat.lt_of_lt_of_le (P3.out.2.2 k hk) g4.size, z8, fun k hk => by
          rcases hk with hk | rfl
          · exact Nat.lt_of_lt_of_le (P3.out.1.ts.queue.lt k hk) g4.size
          · exact Nat.lt_of_lt_of_le P3.out.1.ts.lt g4.size, Nat.le_trans P3.out.2.1.size g4.size⟩
      have SQ8 := Lib.hid (SQ.out.later g38.below)
      have H0 : NextI W8 w4.heap.size (w4.heap.size + 1) S 0 W8 := ⟨Kept.refl _ _, e1, e2⟩
      have hoI := nextI_own (W8 := W8) (nb := w4.heap.size) (lb := w4.heap.size + 1) (S := S) (by omega) (by omega)
      have HW8 := Lib.hid hW8
      obtain ⟨nb, hnb⟩ : ∃ nb, w4.heap.size = nb := ⟨_, rfl⟩
      rw [hnb] at P8 H0 hoI z8
      have HNB := Lib.hid hnb
      clear hW8 g8 g38 g4 e1 e2 P3 SQ CN hnb
      go_wp2_with fail
      rw [HW8.out]
      try rw [HNB.out]
      refine wp_rangeOwn (gf := 85) (lb := #[.pointer (some ⟨cv, 0, none⟩)]) (encs := enA S) (F := F) (c := 4) (N := S.length) (w0 := W8) ?hg ?eg SQ8.out (Below.refl _ _) ?ps (NextI W8 nb (nb + 1) S) (fun _ _ _ => False) hoI ?hix H0 ?round ?done ?stop
      case hg => rfl
      case eg => exact enters_of Try.func85 (by kernel_rfl) rfl
      case ps => exact fun _ => rfl
      case hix => exact fun c s A B row hs _ _ => hs
      case stop => intro D c k W5 _ _ hx; exact hx.elim
      case round =>
        intro l k Wk hks hi _
        obtain ⟨x, hx⟩ : ∃ x, S.getD k (0, 0) = x := ⟨_, rfl⟩
        have HX := Lib.hid hx
        have hle := sorted_first_le P8.out.1.sorted hks
        rw [hx] at hle
        unfold enA
        rw [hx]
        clear hx
        obtain ⟨ki, ky⟩ := x
        simp only [] at hle ⊢
        gi_wp2
        refine ⟨KeepsFrom.refl _ _, KeepB.refl _ _ _ _, fun Wb hbz => ?_⟩
        have hi2 := hbz.own hoI hi
        obtain ⟨c1, c2⟩ := hi2.2.1.cell
        obtain ⟨c3, c4⟩ := hi2.2.2.cell
        have HI2 := Lib.hid hi2
        have q4 : IntKind.i64.wrap ((k : Int) + 1) = (k : Int) + 1 := by rw [IntKind.wrap_i64]; have := HS.out.1; omega
        have PK : Hid (∀ W', Kept (fun i => i = nb ∨ i = nb + 1) Wb W' → NumAt W' nb ((k + 1 : Nat) : Int) → NumAt W' (nb + 1) (leastK S (k + 1)) → KeepsFrom W8.heap.size Wb W' ∧ KeepB F 4 (W8.heap.size + 2) Wb W' ∧ NextI W8 nb (nb + 1) S (k + 1) W') := fun W' kk n1 n2 => by
          refine ⟨kk.from _ (fun i e => by have := P8.out.2.2.2.1; omega), fun j ob hj ho _ => (kk.block j (Array.getElem?_eq_some_iff.1 ho).1 (fun e => ?_)).trans ho, hi2.1.trans kk, n1, n2⟩
          rcases hj with hj | hj
          · have := P8.out.2.2.1 j hj; omega
          · have := P8.out.2.2.2.1; omega
        clear hi hi2 hbz hoI H0
        by_cases hk0 : k = 0
        · subst hk0
          have L1 : Hid (leastK S (0 + 1) = ky) := by
            have := HX.out
            unfold leastK
            rw [if_neg (by omega), this]
            exact (rfl : (ki, ky).2 = ky)
          have nn : nb ≠ nb + 1 := by omega
          have nn2 : nb + 1 ≠ nb := by omega
          gi_wp2
          refine PK.out _ (((Kept.refl _ Wb).setCell (p := ⟨nb + 1, 0, none⟩) (.inl (.inr rfl)) _).setCell (p := ⟨nb, 0, none⟩) (.inl (.inl rfl)) _) ?_ ?_
          · exact (HI2.out.2.1.far nn _).set _
          · rw [L1.out]
            exact (HI2.out.2.2.set _).far nn2 _
        · have hl0 : leastK S k = (S.getD 0 (0, 0)).2 := if_neg hk0
          rw [hl0] at c3
          have p1 : ((k : Int) == 0) = false := by simpa using hk0
          have p2 : decide (ky < (S.getD 0 (0, 0)).2) = false := decide_eq_false (by omega)
          have p3 : (k == 0) = false := by simpa using hk0
          have L1 : Hid (leastK S (k + 1) = leastK S k) := by
            unfold leastK
            rw [if_neg (by omega), if_neg hk0]
            exact (rfl : (S.getD 0 (0, 0)).2 = (S.getD 0 (0, 0)).2)
          have nn2 : nb + 1 ≠ nb := by omega
          generalize (S.getD 0 (0, 0)).2 = lo at *
          gi_wp2
          refine PK.out _ ((Kept.refl _ Wb).setCell (p := ⟨nb, 0, none⟩) (.inl (.inl rfl)) _) ?_ ?_
          · exact HI2.out.2.1.set _
          · rw [L1.out]
            exact HI2.out.2.2.far nn2 _
      case done =>
        intro Dm W5 hD hi hdef
        have NF : Hid (NextF w W5 tb q nw o S nb (nb + 1) Dm) := by
          refine ⟨P8.out.1.ts.kept hi.1 (fun b hb e => by have := P8.out.2.2.2.2.1 b hb; omega), hi.2.1, hi.2.2, hdef, P8.out.2.1.trans (hi.1.below P8.out.2.1.size (fun k hk => by have := P8.out.2.2.2.2.2; omega))⟩
        have HDm : Hid (w.heap.size ≤ Dm) := by have := P8.out.2.1.size; exact Nat.le_trans this hD
        have HSO := Lib.hid P8.out.1.sorted
        clear hi hdef hD hoI H0 P8 SQ8 HW8
        have c1 := NF.out.num.cell.1
        have c2 := NF.out.least.cell.1
        have hae := HAE.out
        by_cases h0 : S.length = 0
        · rw [if_pos h0] at hae
          obtain ⟨rfl, rfl⟩ := hae
          rw [h0] at c1
          clear c2
          go_wp2_with fail
          refine (CW _).out.mono ?_
          rintro E w15 ⟨rfl, b15⟩
          have b16 : Hid (Below w.heap.size w w15 ∧ w15.heap[Dm]? = some (.deferred (some []))) := ⟨(NF.out.lies b15).low, (NF.out.lies b15).mark⟩
          clear b15 NF c1
          go_wp2_with fail
          refine leave_one b16.out.2 ⟨.bool true, by simp [results, Try.f10, go_sem], rfl, below_put b16.out.1 HDm.out⟩
        · rw [if_neg h0] at hae
          obtain ⟨hat, rfl⟩ := hae
          have HAT := Lib.hid hat
          have hl0 : leastK S S.length = at_ := by rw [hat]; exact if_neg h0
          rw [hl0] at c2
          have p1 : ((S.length : Int) == 0) = false := by simpa using h0
          have p2 : (S.length == 0) = false := by simpa using h0
          have p3 : (at_ != at_) = false := by simp
          have HS2 : Hid (Sorted S ∧ S ≠ []) := ⟨HSO.out, fun e => by rw [e] at h0; exact h0 rfl⟩
          have HLN : Hid (∀ L : List Ent, L.Perm S → L.length < 1099511627776) := fun L hp => by have := hp.length_eq; have := HS.out.1; omega
          have hgood := (NF.out.ts.good _ (first_of HSO.out (by omega)).1).1.2
          rw [← hat] at hgood
          have hat2 := timeE_may5 hgood
          have HG := Lib.hid hgood
          have CC := Lib.hid (tcopy_any NF.out.ts (HLN.out _ (List.Perm.refl _)) (Nat.zero_le _))
          clear hat hl0 h0 hgood
          generalize S.length = sl at *
          go_wp2_with fail
          refine CC.out.mono ?_
          rintro E w10 ⟨tc, r, rfl, h10, k10, _, tn⟩
          have TN : Hid ((∀ k, r.turns k ∨ k = tc → W5.heap.size ≤ k) ∧ Dm < W5.heap.size ∧ w.heap.size ≤ W5.heap.size ∧ w.heap.size ≤ Dm) := ⟨fun k hk => tn k (hk.imp .inl (fun x => x)), (Array.getElem?_eq_some_iff.1 NF.out.mark).1, NF.out.low.size, HDm.out⟩
          have NK := Lib.hid (fun (W' : World) (b : Below W5.heap.size W5 W') => NF.out.lies b)
          have B10 : Hid (Below W5.heap.size W5 w10) := k10.below (Nat.le_refl _) (fun _ x => x.elim)
          have C10 : Hid (Ts 0 w10 tc r 20 nw o S ∧ NextF w w10 tb q nw o S nb (nb + 1) Dm) := ⟨h10, NF.out.lies (k10.below (Nat.le_refl _) (fun _ x => x.elim))⟩
          clear h10 k10 tn CC NF c1 c2
          have wr : IntKind.i64.wrap (at_ - 1) = at_ - 1 := IntWalk.i64_in _ (by omega)
          go_wp2_with fail
          refine (tnow_any C10.out.1).mono ?_
          rintro E w11 ⟨rfl, rfl⟩
          by_cases hA : nw ≤ at_ - 1
          · have a1 : decide (at_ - 1 ≥ nw) = true := decide_eq_true hA
            have a2 : decide (nw ≤ at_ - 1) = true := decide_eq_true hA
            have h1' := timeE_may5 HS.out.2.2
            have ht1 : timeE (at_ - 1) = 0 := timeE_ok (by omega) (by omega)
            have CD1 := Lib.hid (due_any C10.out.1 (at_ - 1) ht1 hA (HLN.out _ (List.Perm.refl _)))
            go_wp2_with fail
            refine CD1.out.mono ?_
            rintro E w12 ⟨D1, L1, o1, ra1, rc1, rfl, hT1, hR1, hK1, hD1, hL1⟩
            obtain ⟨e1, e2, _⟩ := due_is HS2.out.1 hD1 hL1
            have hu : untilN (at_ - 1) S = 0 := by
              by_cases hz : untilN (at_ - 1) S = 0
              · exact hz
              · have := untilN_lt (at_ - 1) S 0 (by omega)
                rw [← HAT.out] at this
                omega
            rw [hu] at e1 e2
            simp only [List.take_zero] at e1
            rw [List.drop_zero] at e2
            obtain ⟨tX, htX⟩ : ∃ tX, at_ = tX := ⟨_, rfl⟩
            have hmax : max at_ (at_ - 1) = tX := by omega
            have HC : Hid (Ts 0 w12 tc r 20 (at_ - 1) o1 L1 ∧ L1.Perm S ∧ NextF w w12 tb q nw o S nb (nb + 1) Dm ∧ timeE tX = 0 ∧ at_ - 1 ≤ tX ∧ at_ ≤ tX) := by
              refine ⟨hT1, e2, ?_, htX ▸ HG.out, by omega, by omega⟩
              exact NK.out _ (B10.out.trans (hK1.below B10.out.size (fun k hk => TN.out.1 k hk)))
            subst e1
            clear hT1 hR1 hK1 hD1 hL1 e2 hu CD1 htX h1' ht1
            simp only [List.length_nil] at *
            have HX := Lib.hid HC.out
            go_wp2_with fail
            refine (tnow_any HC.out.1).mono ?_
            rintro E w13 ⟨rfl, rfl⟩
            have CD2 := Lib.hid (due_any HC.out.1 tX HC.out.2.2.2.1 HC.out.2.2.2.2.1 (HLN.out _ HC.out.2.1))
            go_wp2_with fail
            refine CD2.out.mono ?_
            rintro E w14 ⟨D, Lc, o3, ra, rc, rfl, hT, hR, hKp, hDI, hLt⟩
            obtain ⟨hpos, hhead⟩ := due_head HS2.out.1 (List.length_pos_iff.2 HS2.out.2) HC.out.2.1 hDI hLt (by rw [← HAT.out]; exact HC.out.2.2.2.2.2)
            obtain ⟨g9, rfl, hcells⟩ := rowN hR hpos
            obtain ⟨_, f1, _⟩ := flatF_at tX D 0 hpos
            rw [hhead, ← HAT.out] at f1
            have x1 := hcells _ _ f1
            simp only [Nat.zero_mul, Nat.zero_add] at x1
            have NF2 : Hid (w14.heap[Dm]? = some (.deferred (some [])) ∧ Below w.heap.size w w14) := by
              have nf := HC.out.2.2.1
              refine ⟨(hKp.block Dm (Array.getElem?_eq_some_iff.1 nf.mark).1 (fun hs => by have := TN.out.1 Dm hs; have := TN.out.2; omega)).trans nf.mark, nf.low.trans (hKp.below nf.low.size (fun k hk => by have := TN.out.1 k hk; have := TN.out.2; omega))⟩
            have p1 : decide ((D.length : Int) > 0) = true := decide_eq_true (by omega)
            have p2 : decide (0 < D.length) = true := decide_eq_true hpos
            have p3 : decide (0 < (D.length : Int)) = true := decide_eq_true (by omega)
            have p4 : (0 : Int) < (D.length : Int) := by omega
            have p5 : (at_ == at_) = true := by simp
            clear hT hR hKp hDI hLt hhead hcells f1 CD2 HC HX
            generalize D.length = dl at *
            go_wp2_with fail
            refine (CW _).out.mono ?_
            rintro E w15 ⟨rfl, b15⟩
            have b16 : Hid (Below w.heap.size w w15 ∧ w15.heap[Dm]? = some (.deferred (some []))) := ⟨NF2.out.2.trans (b15.mono NF2.out.2.size), (b15.block Dm (Array.getElem?_eq_some_iff.1 NF2.out.1).1).trans NF2.out.1⟩
            clear b15 NF2 x1
            go_wp2_with fail
            refine leave_one b16.out.2 ⟨.bool true, by simp [results, Try.f10, go_sem], rfl, below_put b16.out.1 TN.out.2.2.2⟩
          · have a1 : decide (at_ - 1 ≥ nw) = false := decide_eq_false (by omega)
            have a2 : decide (nw ≤ at_ - 1) = false := decide_eq_false (by omega)
            obtain ⟨tX, htX⟩ : ∃ tX, nw = tX := ⟨_, rfl⟩
            have hmax : max at_ nw = tX := by omega
            have HC : Hid (Ts 0 w10 tc r 20 nw o S ∧ S.Perm S ∧ NextF w w10 tb q nw o S nb (nb + 1) Dm ∧ timeE tX = 0 ∧ nw ≤ tX ∧ at_ ≤ tX) := ⟨C10.out.1, List.Perm.refl _, C10.out.2, htX ▸ HS.out.2.2, by omega, by omega⟩
            clear htX
            have HX := Lib.hid HC.out
            go_wp2_with fail
            refine (tnow_any HC.out.1).mono ?_
            rintro E w13 ⟨rfl, rfl⟩
            have CD2 := Lib.hid (due_any HC.out.1 tX HC.out.2.2.2.1 HC.out.2.2.2.2.1 (HLN.out _ HC.out.2.1))
            go_wp2_with fail
            refine CD2.out.mono ?_
            rintro E w14 ⟨D, Lc, o3, ra, rc, rfl, hT, hR, hKp, hDI, hLt⟩
            obtain ⟨hpos, hhead⟩ := due_head HS2.out.1 (List.length_pos_iff.2 HS2.out.2) HC.out.2.1 hDI hLt (by rw [← HAT.out]; exact HC.out.2.2.2.2.2)
            obtain ⟨g9, rfl, hcells⟩ := rowN hR hpos
            obtain ⟨_, f1, _⟩ := flatF_at tX D 0 hpos
            rw [hhead, ← HAT.out] at f1
            have x1 := hcells _ _ f1
            simp only [Nat.zero_mul, Nat.zero_add] at x1
            have NF2 : Hid (w14.heap[Dm]? = some (.deferred (some [])) ∧ Below w.heap.size w w14) := by
              have nf := HC.out.2.2.1
              refine ⟨(hKp.block Dm (Array.getElem?_eq_some_iff.1 nf.mark).1 (fun hs => by have := TN.out.1 Dm hs; have := TN.out.2; omega)).trans nf.mark, nf.low.trans (hKp.below nf.low.size (fun k hk => by have := TN.out.1 k hk; have := TN.out.2; omega))⟩
            have p1 : decide ((D.length : Int) > 0) = true := decide_eq_true (by omega)
            have p2 : decide (0 < D.length) = true := decide_eq_true hpos
            have p3 : decide (0 < (D.length : Int)) = true := decide_eq_true (by omega)
            have p4 : (0 : Int) < (D.length : Int) := by omega
            have p5 : (at_ == at_) = true := by simp
            clear hT hR hKp hDI hLt hhead hcells f1 CD2 HC HX
            generalize D.length = dl at *
            go_wp2_with fail
            refine (CW _).out.mono ?_
            rintro E w15 ⟨rfl, b15⟩
            have b16 : Hid (Below w.heap.size w w15 ∧ w15.heap[Dm]? = some (.deferred (some []))) := ⟨NF2.out.2.trans (b15.mono NF2.out.2.size), (b15.block Dm (Array.getElem?_eq_some_iff.1 NF2.out.1).1).trans NF2.out.1⟩
            clear b15 NF2 x1
            go_wp2_with fail
            refine leave_one b16.out.2 ⟨.bool true, by simp [results, Try.f10, go_sem], rfl, below_put b16.out.1 TN.out.2.2.2⟩

theorem walk_TimersNext (a : Option Addr) (n cap : Nat) (w : World) (h : ∃ V, Ops5At w a n V) :
    Calls Try.prog 10 #[.slice a n cap] w fun E w' => E = .returned (.bool true) ∧ Below w.heap.size w w' := by
  obtain ⟨V, hv⟩ := h
  by_cases hn : n ≤ 60
  · exact next5_core a n cap hn V w hv
  · exact next5_long a n cap (by omega) w
end Go.Proofs.Ytpglkakbiaihdaa
