/-
  The walk of ReadyUntil.
-/
import Derived.Test.YtcipilggddpnpaaRx2
import Derived.Test.YtcipilggddpnpaaQv
import Derived.Test.YtcipilggddpnpaaQx1
import Derived.Deep.QuietTactic
import Derived.BigQuiet
namespace Go.Proofs.Ytcipilggddpnpaa
open Go.RowKit Go.Shelf Go.Maps
set_option linter.unusedVariables false
set_option linter.unusedSimpArgs false
attribute [local go_sem] Oper.semAt_some

def Bit4 (W : World) (b : Nat) (v : Bool) : Prop := W.heap[b]? = some (.cells #[.bool v] 4 (0, 0))
theorem Bit4.lt {W : World} {b : Nat} {v : Bool} (h : Bit4 W b v) : b < W.heap.size := (Array.getElem?_eq_some_iff.1 h).1
theorem Bit4.cell {W : World} {b : Nat} {v : Bool} (h : Bit4 W b v) : W.cell? ⟨b, 0, none⟩ = some (.bool v) ∧ W.frozen? ⟨b, 0, none⟩ = false := by
  unfold Bit4 at h
  exact ⟨by simp [World.cell?, h], by simp [World.frozen?, h]⟩
theorem Bit4.set {W : World} {b : Nat} {v : Bool} (h : Bit4 W b v) (v' : Bool) : Bit4 (W.setCell ⟨b, 0, none⟩ (.bool v')) b v' := by
  unfold Bit4 at *
  simp [World.setCell, Array.getElem?_modify, h]
theorem Bit4.lies {W W' : World} {b : Nat} {v : Bool} (h : Bit4 W b v) (hb : Below W.heap.size W W') : Bit4 W' b v := (hb.block b h.lt).trans h
theorem Bit4.below {W W' : World} {b X : Nat} {v : Bool} (h : Bit4 W b v) (hb : Below X W W') (hX : b < X) : Bit4 W' b v := (hb.block b hX).trans h
theorem below_put4 {B : Nat} {w W : World} {D : Nat} {o : Obj} (h : Below B w W) (hD : B ≤ D) : Below B w (W.putObj D o) :=
  ⟨h.os, h.tape, h.output, by simp [World.putObj]; exact h.size, fun k hk => (World.putObj_heap_other (by omega)).trans (h.block k hk)⟩

/-- The time and the answer, boxed at the beginning. -/
theorem start4u (w : World) (t : Int) : Below w.heap.size w ((w.alloc (.cells #[.int .i64 t] 3)).alloc (.cells #[.bool false] 4)) ∧ NumAt ((w.alloc (.cells #[.int .i64 t] 3)).alloc (.cells #[.bool false] 4)) w.heap.size t ∧ Bit4 ((w.alloc (.cells #[.int .i64 t] 3)).alloc (.cells #[.bool false] 4)) (w.heap.size + 1) false ∧ ((w.alloc (.cells #[.int .i64 t] 3)).alloc (.cells #[.bool false] 4)).heap.size = w.heap.size + 2 := by
  refine ⟨((Below.refl _ _).alloc (Nat.le_refl _) _).alloc (by simp) _, ?_, ?_, by simp⟩
  · unfold NumAt
    rw [Below.heap_alloc _ _ _ (by simp)]
    exact heap_alloc_new _ _
  · have := heap_alloc_new (w.alloc (.cells #[.int .i64 t] 3)) (.cells #[.bool false] 4)
    unfold Bit4
    simpa using this

set_option maxHeartbeats 1000000 in
set_option maxRecDepth 100000 in
theorem until4_long (a : Option Addr) (n cap : Nat) (hn : n ≤ 9223372036854775807) (V : Nat → Int × Ent × List Ent) (A : Nat → Option Addr × Nat) (hf : ¬ Few4 n V) (t : Int) (w : World) (hv : OpsAt4 w a n V A) :
    Calls Try.prog 6 #[.slice a n cap, .int .i64 t] w fun E w' => E = .returned (.bool true) ∧ Below w.heap.size w w' := by
  obtain ⟨b0, _, r0, _⟩ := start4u w t
  obtain ⟨Wk, hWk⟩ : ∃ Wk, (w.alloc (.cells #[.int .i64 t] 3)).alloc (.cells #[.bool false] 4) = Wk := ⟨_, rfl⟩
  rw [hWk] at b0 r0
  have B0 := Lib.hid (And.intro b0 r0)
  have HWk := Lib.hid hWk
  have C1 := Lib.hid (qnew_any w.heap.size Wk b0.size)
  have CF : Hid (∀ W, Below w.heap.size w W → Calls Try.prog 17 #[.slice a n cap] W fun e w' => e = .returned (.bool false) ∧ Grew W w') := fun W b => few4_any W a n cap V A (hv.below b) hn false ⟨fun h => (by cases h), fun h => absurd h hf⟩
  have CW : Hid (∀ W, Calls Try.prog 18 #[] W fun E w' => E = .returned (.bool true) ∧ Below W.heap.size W w') := fun W => awake4 W
  clear hv hf b0 r0 hWk
  go_enter Try.func6, Try.ntmps6
  go_wp2_with fail
  rw [HWk.out]
  refine C1.out.mono ?_
  rintro E w1 ⟨q, rfl, h1, g1, o1⟩
  have B1' : Hid (Below w.heap.size w w1 ∧ Bit4 w1 (w.heap.size + 1) false) := ⟨B0.out.1.trans (g1.below.mono B0.out.1.size), B0.out.2.lies g1.below⟩
  clear h1 g1 o1 C1
  go_wp2_with fail
  refine (CF.out _ B1'.out.1).mono ?_
  rintro E w2 ⟨rfl, g2⟩
  have B2' : Hid (Below w.heap.size w w2 ∧ Bit4 w2 (w.heap.size + 1) false) := ⟨B1'.out.1.trans (g2.below.mono B1'.out.1.size), B1'.out.2.lies g2.below⟩
  clear g2
  go_wp2_with fail
  refine (CW.out _).mono ?_
  rintro E w3 ⟨rfl, b3⟩
  have B3' : Hid (Below w.heap.size w w3 ∧ Bit4 w3 (w.heap.size + 1) false) := ⟨B2'.out.1.trans (b3.mono B2'.out.1.size), B2'.out.2.lies b3⟩
  obtain ⟨x0, x1⟩ := B3'.out.2.cell
  go_wp2
  exact bodyPost_ret (v := .bool true) (by simp [results, Try.f6, go_sem, x0]) rfl ⟨rfl, B3'.out.1.setCell (p := ⟨w.heap.size + 1, 0, none⟩) (Nat.le_succ _) _⟩

/-- What a round reads, and what is left of it. -/
structure UnB (Y : Nat) (W : World) (tb : Nat) (t : Int) (lb : Nat) (ra : Option Addr) (N rc : Nat) (S : List Ent) : Prop where
  num : NumAt W tb t
  res : Bit4 W (tb + 1) false
  list : W.heap[lb]? = some (.cells #[.slice ra N rc] 46 (0, 0))
  all : All4 Y W ra N S
theorem UnB.kept {Y : Nat} {W W' : World} {tb : Nat} {t : Int} {lb : Nat} {ra : Option Addr} {N rc : Nat} {S : List Ent} {T : Nat → Prop} (h : UnB Y W tb t lb ra N rc S) (k : Kept T W W') (h1 : ¬ T tb) (h2 : ¬ T (tb + 1)) (h3 : ¬ T lb) (h4 : ∀ g, Y ≤ g → ¬ T g) : UnB Y W' tb t lb ra N rc S :=
  ⟨(k.block _ (Array.getElem?_eq_some_iff.1 h.num).1 h1).trans h.num, (k.block _ h.res.lt h2).trans h.res, (k.block _ (Array.getElem?_eq_some_iff.1 h.list).1 h3).trans h.list, h.all.kept k h4⟩
theorem UnB.lies {Y : Nat} {W W' : World} {tb : Nat} {t : Int} {lb : Nat} {ra : Option Addr} {N rc : Nat} {S : List Ent} (h : UnB Y W tb t lb ra N rc S) (b : Below W.heap.size W W') : UnB Y W' tb t lb ra N rc S :=
  h.kept (kept_lies (S := fun _ => False) b) (fun x => x) (fun x => x) (fun x => x) (fun _ _ x => x)
theorem UnB.cells {Y : Nat} {W : World} {tb : Nat} {t : Int} {lb : Nat} {ra : Option Addr} {N rc : Nat} {S : List Ent} (h : UnB Y W tb t lb ra N rc S) : W.cell? ⟨tb, 0, none⟩ = some (.int .i64 t) ∧ W.cell? ⟨lb, 0, none⟩ = some (.slice ra N rc) := ⟨h.num.cell.1, by simp [World.cell?, h.list]⟩

set_option maxHeartbeats 8000000 in
set_option maxRecDepth 100000 in
theorem until4_core (a : Option Addr) (n cap : Nat) (hn : n ≤ 9223372036854775807) (V : Nat → Int × Ent × List Ent) (A : Nat → Option Addr × Nat) (hf : Few4 n V) (t : Int) (w : World) (hv : OpsAt4 w a n V A) :
    Calls Try.prog 6 #[.slice a n cap, .int .i64 t] w fun E w' => E = .returned (.bool true) ∧ Below w.heap.size w w' := by
  have mixed : Try.prog.follows .mixedOrders = true := by kernel_rfl
  have hnf : ∀ (f : Fn) (b c : Array Value) (w : World), (binOp .eql 53 (.func f b c) Value.nilFunc).run Try.prog w = .ok (.bool false) w := fun _ _ _ _ => rfl
  obtain ⟨b0, t0, r0, z0⟩ := start4u w t
  obtain ⟨Wk, hWk⟩ : ∃ Wk, (w.alloc (.cells #[.int .i64 t] 3)).alloc (.cells #[.bool false] 4) = Wk := ⟨_, rfl⟩
  rw [hWk] at b0 t0 r0 z0
  have HWk := Lib.hid hWk
  have C1 := Lib.hid (qnew_any Wk.heap.size Wk (Nat.le_refl _))
  have CF : Hid (∀ W, Below w.heap.size w W → Calls Try.prog 17 #[.slice a n cap] W fun e w' => e = .returned (.bool true) ∧ Grew W w') := fun W b => few4_any W a n cap V A (hv.below b) hn true ⟨fun _ => hf, fun _ => rfl⟩
  have CW : Hid (∀ W, Calls Try.prog 18 #[] W fun E w' => E = .returned (.bool true) ∧ Below W.heap.size W w') := fun W => awake4 W
  have HV : Hid (OpsAt4 w a n V A ∧ Few4 n V ∧ Below w.heap.size w Wk ∧ NumAt Wk w.heap.size t ∧ Bit4 Wk (w.heap.size + 1) false ∧ Wk.heap.size = w.heap.size + 2) := ⟨hv, hf, b0, t0, r0, z0⟩
  have n40 : n ≤ 40 := hf.1
  clear hv hf b0 t0 r0 z0 hWk hn
  refine calls_marks Try.func6 rfl ?_
  simp only [Try.ntmps6, List.size_toArray, List.length_cons, List.length_nil, Nat.reduceAdd, Nat.reduceSub, Array.replicate_succ, Array.replicate_zero, List.push_toArray, List.append_toArray, List.nil_append, List.cons_append]
  go_wp2_with fail
  rw [HWk.out]
  refine C1.out.mono ?_
  rintro E w1 ⟨q0, rfl, h1, g1, o1⟩
  have H1 : Hid (Qs Wk.heap.size w1 q0 [] ∧ Grew Wk w1) := ⟨h1, g1⟩
  clear h1 g1 o1 C1
  go_wp2_with fail
  refine (CF.out _ (HV.out.2.2.1.trans (H1.out.2.below.mono HV.out.2.2.1.size))).mono ?_
  rintro E w2 ⟨rfl, g2⟩
  have T2 : Hid (At4 Wk.heap.size Wk (w2.alloc (.cells #[.slice none 0 0] 48)) q0.qb w2.heap.size 0) := at4_new H1.out.1 H1.out.2 g2 (Nat.le_refl _)
  clear g2 H1 CF
  go_wp2_with fail
  generalize hW3 : w2.alloc (.cells #[.slice none 0 0] 48) = W3 at *
  clear hW3
  generalize w2.heap.size = rf at *
  generalize q0.qb = qb at *
  go_loopg [7] n (fun gk s7 wr => ∃ i : Nat, s7 = .int .i64 i ∧ i ≤ n ∧ n - i ≤ gk ∧ Hid (At4 Wk.heap.size Wk wr qb rf i))
  case atStart => exact ⟨0, rfl, Nat.zero_le _, Nat.le_refl _, T2⟩
  case round =>
    rename World => W2
    obtain ⟨i, rfl, hi, hgk, HR⟩ := hrel
    clear T2
    by_cases hlt : i < n
    · have d1 : decide ((i : Int) < (n : Int)) = true := decide_eq_true (by omega)
      have d2 : decide (i < n) = true := decide_eq_true hlt
      have d3 : (i : Int) < (n : Int) := by omega
      have bw : Below w.heap.size w W2 := by
        obtain ⟨q, S, _, _, _, b⟩ := HR.out
        exact HV.out.2.2.1.trans (b.mono HV.out.2.2.1.size)
      have hK := HV.out.1.keys bw (X := Wk.heap.size) HV.out.2.2.1.size hlt
      have h20 := HV.out.2.1.2 i hlt
      rcases HV.out.1.below bw with hz | ⟨g, o, rfl, hg, hc⟩
      · omega
      obtain ⟨⟨c0, c1, c2, c3⟩, hx, _, hcap⟩ := hc i hlt
      have CD := Lib.hid (HR.out.does (Nat.le_refl _) (by omega) (V i).1 (V i).2.1.2 (V i).2.1.1 hx (V i).2.2 (A i).1 (A i).2 hK h20 hcap)
      clear hc hg hx HR hK h20 hcap bw
      generalize V i = v at *
      generalize A i = av at *
      obtain ⟨v1, ⟨v2, v3⟩, v4⟩ := v
      obtain ⟨a1, a2⟩ := av
      simp only [] at c0 c1 c2 c3 CD
      generalize v4.length = vl at *
      go_wp2_with fail
      refine CD.out.mono ?_
      rintro E w3 ⟨rfl, h3⟩
      have H3 := Lib.hid h3
      clear h3 CD c0 c1 c2 c3
      go_wp2
      go_roundg (n - (i + 1))
      case measure => omega
      case rel => exact ⟨i + 1, by go_num, by omega, Nat.le_refl _, H3⟩
    · obtain rfl : i = n := by omega
      have d1 : decide ((i : Int) < (i : Int)) = false := decide_eq_false (by omega)
      have d2 : decide (i < i) = false := decide_eq_false (by omega)
      obtain ⟨q, S, hp, rfl, hS, hlow⟩ := HR.out
      have P : Hid (Pq Wk.heap.size W2 q rf S ∧ Below Wk.heap.size Wk W2 ∧ S.length ≤ 800) := ⟨hp, hlow, by omega⟩
      have CU := Lib.hid (quntil_any hp.queue (List.Perm.refl S) hp.sorted hp.diff (by omega) t)
      have OWN : Hid (∀ k, q.own k → k < W2.heap.size) := fun k hk => hp.queue.lt k hk
      obtain ⟨xt, _⟩ := (show NumAt W2 w.heap.size t from (hlow.block _ (by have := HV.out.2.2.2.2.2; omega)).trans HV.out.2.2.2.1).cell
      clear hp hlow hS HR
      go_wp2_with fail
      refine CU.out.mono ?_
      rintro E w3 ⟨cu, ct, F, rfl, hseq, hF, hkp⟩
      have b3 : Below W2.heap.size W2 w3 := hkp.below (Nat.le_refl _) (fun _ x => x.elim)
      have P3 : Hid (Pq Wk.heap.size w3 q rf S ∧ Below Wk.heap.size Wk w3 ∧ S.length ≤ 800 ∧ (∀ k, F k → k < w3.heap.size) ∧ ∀ k, q.own k → k < w3.heap.size) := ⟨P.out.1.lies b3, P.out.2.1.trans (b3.mono P.out.1.base), P.out.2.2, fun k hk => (hF k hk).2, fun k hk => Nat.lt_of_lt_of_le (OWN.out k hk) b3.size⟩
      have SQ := Lib.hid hseq
      clear hseq hF hkp b3 CU P OWN xt
      obtain ⟨Wn, hWn⟩ : ∃ Wn, w3.alloc (.cells #[.int .i64 0] 3) = Wn := ⟨_, rfl⟩
      have bn : Below w3.heap.size w3 Wn := by rw [← hWn]; exact below_al w3 _
      have nn : NumAt Wn w3.heap.size 0 := by rw [← hWn]; exact heap_alloc_new _ _
      have PN : Hid (Pq Wk.heap.size Wn q rf S ∧ Below Wk.heap.size Wk Wn ∧ S.length ≤ 800 ∧ (∀ k, F k → k < w3.heap.size) ∧ (∀ k, q.own k → k < w3.heap.size) ∧ NumAt Wn w3.heap.size 0 ∧ w3.heap.size < Wn.heap.size ∧ Wk.heap.size ≤ w3.heap.size) :=
        ⟨P3.out.1.lies bn, P3.out.2.1.trans (bn.mono P3.out.1.base), P3.out.2.2.1, P3.out.2.2.2.1, P3.out.2.2.2.2, nn, (Array.getElem?_eq_some_iff.1 nn).1, P3.out.1.base⟩
      have SQn := Lib.hid (SQ.out.later bn)
      have HWn := Lib.hid hWn
      obtain ⟨N, hN⟩ : ∃ N, S.length = N := ⟨_, rfl⟩
      have HN := Lib.hid hN
      have CL : Hid (Calls Try.prog 27 #[.pointer (some ⟨q.qb, 0, none⟩)] Wn fun E w' => E = .returned (.int .i64 N) ∧ Wn = w') := by
        have := qlen_any PN.out.1.queue
        rw [hN] at this
        exact this
      have CA : Hid (Calls Try.prog 24 #[.pointer (some ⟨q.qb, 0, none⟩), .int .i64 N] Wn fun E w' => ∃ a cap, E = .returned (.slice a N cap) ∧ w'.ownsRow Wn.heap.size 37 2 (.slice a N cap) N (flatR S) ∧ Kept (fun _ => False) Wn w') := by
        have := qleast_any PN.out.1.queue (List.Perm.refl S) PN.out.1.sorted PN.out.1.diff (by have := PN.out.2.2.1; omega) (S.length : Int)
        rw [Int.toNat_natCast, Nat.min_self, List.take_length, hN] at this
        exact this
      clear hWn bn nn P3 SQ hN
      go_upto_region 13 with (fail)
      rw [HWn.out]
      go_wp2_with fail
      refine CL.out.mono ?_
      rintro E w4 ⟨rfl, rfl⟩
      go_wp2_with fail
      refine CA.out.mono ?_
      rintro E w5 ⟨ra, rc, rfl, hrow, hkp⟩
      obtain ⟨al, hrc⟩ := all4_own hrow (fun x hx => (PN.out.1.good x hx).2)
      have b5 : Below Wn.heap.size Wn w5 := hkp.below (Nat.le_refl _) (fun _ x => x.elim)
      obtain ⟨W8, hW8⟩ : ∃ W8, w5.alloc (.cells #[.slice ra N rc] 46) = W8 := ⟨_, rfl⟩
      have b8 : Below w5.heap.size w5 W8 := by rw [← hW8]; exact below_al w5 _
      have b58 : Below Wn.heap.size Wn W8 := b5.trans (b8.mono b5.size)
      have H8 : Hid (UnB Wn.heap.size W8 w.heap.size t w5.heap.size ra N rc S) := by
        refine ⟨?_, ?_, by rw [← hW8]; exact heap_alloc_new _ _, al.kept (kept_lies (S := fun _ => False) b8) (fun _ _ x => x)⟩
        · exact ((PN.out.2.1.trans (b58.mono PN.out.1.base)).block _ (by have := HV.out.2.2.2.2.2; omega)).trans HV.out.2.2.2.1
        · exact HV.out.2.2.2.2.1.below (PN.out.2.1.trans (b58.mono PN.out.1.base)) (by have := HV.out.2.2.2.2.2; omega)
      have P8 : Hid (Pq Wk.heap.size W8 q rf S ∧ Below Wk.heap.size Wk W8 ∧ N ≤ 800 ∧ (∀ k, F k → k < w3.heap.size) ∧ NumAt W8 w3.heap.size 0 ∧ w3.heap.size < Wn.heap.size ∧ Wk.heap.size ≤ w3.heap.size ∧ Wn.heap.size ≤ w5.heap.size ∧ w5.heap.size < W8.heap.size) :=
        ⟨PN.out.1.lies b58, PN.out.2.1.trans (b58.mono PN.out.1.base), by rw [← HN.out]; exact PN.out.2.2.1, PN.out.2.2.2.1, (b58.block _ PN.out.2.2.2.2.2.2.1).trans PN.out.2.2.2.2.2.1, PN.out.2.2.2.2.2.2.1, PN.out.2.2.2.2.2.2.2, b5.size, by rw [← hW8]; simp⟩
      have SQ8 := Lib.hid (SQn.out.later b58)
      have HW8 := Lib.hid hW8
      have hoI := cntI_own (W4 := W8) (b := w3.heap.size) (by have := P8.out.2.2.2.2.2; omega)
      have H0 : CntI W8 w3.heap.size 0 W8 := ⟨Kept.refl _ _, P8.out.2.2.2.2.1⟩
      clear hrow hkp al b5 b8 b58 hW8 SQn PN CL CA HWn
      have HNW : Hid (w.heap.size + 1 < w3.heap.size ∧ w3.heap.size < w5.heap.size) := ⟨by have := P8.out.2.2.2.2.2.2.1; have := HV.out.2.2.2.2.2; omega, by have := P8.out.2.2.2.2.2; omega⟩
      have UB : Hid (∀ W, Kept (fun i => i = w3.heap.size) W8 W → UnB Wn.heap.size W w.heap.size t w5.heap.size ra N rc S) := fun W k =>
        H8.out.kept k (by have := HNW.out; omega) (by have := HNW.out; omega) (by have := HNW.out; omega) (fun g hg => by have := P8.out.2.2.2.2.2; omega)
      have UN : Hid (untilN t S ≤ N) := by
        have := untilN_le t S
        rw [HN.out] at this
        exact this
      go_wp2_with fail
      rw [HW8.out]
      refine wp_rangeOwn (gf := 52) (lb := #[.pointer (some ⟨cu, 0, none⟩), .pointer (some ⟨ct, 0, none⟩)]) (encs := enU S) (F := F) (c := 1) (N := untilN t S) (w0 := W8) ?hg ?eg SQ8.out (Below.refl _ _) ?ps (CntI W8 w3.heap.size) (fun _ _ _ => False) hoI ?hix H0 ?round ?done ?stop
      case hg => rfl
      case eg => exact enters_of Try.func52 (by kernel_rfl) rfl
      case ps => exact fun _ => rfl
      case hix => exact fun c s A B row hs _ _ => hs
      case stop => intro D c k W5 _ _ hx; exact hx.elim
      case round =>
        intro l k Wr hks hi _
        obtain ⟨x, hx⟩ : ∃ x, S.getD k (0, 0) = x := ⟨_, rfl⟩
        have hle := untilN_lt t S k hks
        have hkN : k < N := Nat.lt_of_lt_of_le hks UN.out
        have HX := Lib.hid hx
        rw [hx] at hle
        unfold enU
        rw [hx]
        clear hx
        obtain ⟨ki, ky⟩ := x
        simp only [] at hle ⊢
        obtain ⟨W7, hW7⟩ : ∃ W7, Wr.alloc (.cells #[.int .i64 ky, .int .i64 ki] 37) = W7 := ⟨_, rfl⟩
        have b7 : Below Wr.heap.size Wr W7 := by rw [← hW7]; exact below_al Wr _
        have key7 := (show B2 W7 Wr.heap.size ky ki from by rw [← hW7]; exact B2.start Wr ky ki)
        have i7 : CntI W8 w3.heap.size k W7 := ⟨hi.1.trans (kept_lies b7), (b7.block _ (Array.getElem?_eq_some_iff.1 hi.2).1).trans hi.2⟩
        have HW7 := Lib.hid hW7
        have HB7 := Lib.hid b7
        clear hW7 b7 hi
        gi_wp2
        rw [HW7.out]
        refine ⟨(kept_lies (S := fun _ => False) HB7.out).from _ (fun i e => e.elim), fun j ob hj ho _ => (HB7.out.block j (Array.getElem?_eq_some_iff.1 ho).1).trans ho, fun W9 hbz => ?_⟩
        have i9 := hbz.own hoI i7
        have key : W9.heap[Wr.heap.size]? = some (.cells #[.int .i64 ky, .int .i64 ki] 37 (0, 0)) := hbz.own (s := 0) (cells_own rfl) key7
        obtain ⟨x0, x1⟩ := B2.cells key
        have u9 := UB.out W9 i9.1
        obtain ⟨y0, y1⟩ := u9.cells
        obtain ⟨g, rfl, _, _, y2, y3⟩ := u9.all.cell k hkN
        rw [HX.out] at y2 y3
        simp only [] at y2 y3
        obtain ⟨y4, y5⟩ := i9.2.cell
        have I9 := Lib.hid i9
        have d1 : decide ((k : Int) ≥ (N : Int)) = false := decide_eq_false (by omega)
        have d2 : decide ((N : Int) ≤ (k : Int)) = false := decide_eq_false (by omega)
        have d7 : decide (N ≤ k) = false := decide_eq_false (by omega)
        have d3 : (k : Int) < (N : Int) := by omega
        have d4 : decide (k < N) = true := decide_eq_true hkN
        have d5 : decide (ky > t) = false := decide_eq_false (by omega)
        have d6 : decide (t < ky) = false := decide_eq_false (by omega)
        have q4 : IntKind.i64.wrap ((k : Int) + 1) = (k : Int) + 1 := by rw [IntKind.wrap_i64]; have := P8.out.2.2.1; omega
        clear i7 key7 hbz hoI H0 key i9 u9 hle hks
        gi_wp2_with fail
        refine round_quiet l (Drawing W9) (by kernel_rfl) mixed (by kernel_rfl) (drawing_drew W9) ?_
        repeat (go_big_quiet_step (fail))
        refine wpQuiet_nil ?_
        rintro _ ⟨nq, rfl⟩
        gi_wp2
        have HK : Kept (fun i => i = w3.heap.size) W9 ((W9.drewN nq).setCell ⟨w3.heap.size, 0, none⟩ (.int .i64 ((k : Int) + 1))) := (((grewN W9 nq).kept (fun i => i = w3.heap.size)).setCell (p := ⟨w3.heap.size, 0, none⟩) (.inl rfl) _)
        refine ⟨HK.from _ (fun i e => by have := P8.out.2.2.2.2.2; omega), fun j ob hj ho _ => (HK.block j (Array.getElem?_eq_some_iff.1 ho).1 (fun e => ?_)).trans ho, ?_⟩
        · rcases hj with hj | hj
          · have := P8.out.2.2.2.1 j hj; omega
          · have := P8.out.2.2.2.2.2; omega
        · exact (I9.out.grew (by have := P8.out.2.2.2.2.2; omega) (grewN W9 nq)).next
      case done =>
        intro D W5 hD hi hdef
        have u5 := UB.out W5 hi.1
        obtain ⟨y0, y1⟩ := u5.cells
        obtain ⟨y4, y5⟩ := hi.2.cell
        have LOW : Hid (Below Wk.heap.size Wk W5) := P8.out.2.1.trans (hi.1.below P8.out.1.base (fun k e => by have := P8.out.2.2.2.2.2; omega))
        have U5 := Lib.hid u5
        have I5 := Lib.hid hi
        have D5 : Hid (W8.heap.size ≤ D ∧ W5.heap[D]? = some (.deferred (some []))) := ⟨hD, hdef⟩
        have CL := fun q : LiesB W5 => Lib.hid (lies_call CW.out q)
        have f0 := fun q : LiesB W5 => keep1r y0 q.h
        have f1 := fun q : LiesB W5 => keep1r y1 q.h
        have f4 := fun q : LiesB W5 => keep1r y4 q.h
        haveI hin : Inhabited (LiesB W5) := ⟨⟨W5, Below.refl _ _⟩⟩
        have FIN : Hid (∀ W6, Below W5.heap.size W5 W6 → (W6.setCell ⟨w.heap.size + 1, 0, none⟩ (.bool true)).heap[D]? = some (.deferred (some [])) ∧ Bit4 (W6.setCell ⟨w.heap.size + 1, 0, none⟩ (.bool true)) (w.heap.size + 1) true ∧ Below w.heap.size w (W6.setCell ⟨w.heap.size + 1, 0, none⟩ (.bool true)) ∧ w.heap.size + 1 < D ∧ W6.cell? ⟨w.heap.size + 1, 0, none⟩ = some (.bool false) ∧ W6.frozen? ⟨w.heap.size + 1, 0, none⟩ = false) := fun W6 b6 => by
          have hlt : w.heap.size + 1 < D := by have := HNW.out; have := P8.out.2.2.2.2.2; have := D5.out.1; omega
          have r6 := U5.out.res.lies b6
          refine ⟨?_, r6.set true, ?_, hlt, r6.cell.1, r6.cell.2⟩
          · rw [Below.heap_setCell _ _ _ _ (by show D ≠ w.heap.size + 1; omega)]
            exact (b6.block D (Array.getElem?_eq_some_iff.1 D5.out.2).1).trans D5.out.2
          · exact (HV.out.2.2.1.trans ((LOW.out.trans (b6.mono (Nat.le_trans P8.out.1.base hi.1.size))).mono HV.out.2.2.1.size)).setCell (p := ⟨w.heap.size + 1, 0, none⟩) (Nat.le_succ _) _
        by_cases hend : untilN t S = N
        · rw [hend] at y4 f4
          have d1 : ((N : Int) == (N : Int)) = true := by simp
          have d2 : (N == N) = true := by simp
          clear y0 y1 y4 y5 hi hdef hD hoI H0 u5
          go_wp2_with fail
          refine plain_last 16 _ (LyingB W5) rfl rfl (by kernel_rfl) mixed (lyingB_drew W5) ?_
          simp only [List.take_succ_cons, List.take_zero]
          repeat (go_big_quiet_step (first | (go_at_call 18; (with_reducible exact (CL _).out))))
          refine wpQuiet_nil ?_
          rintro _ ⟨q6, rfl⟩
          obtain ⟨hd6, hb6, hl6, hlt6, e0, e1⟩ := FIN.out q6.v q6.h
          gi_wp2
          go_wp2_with fail
          have hc6 := hb6.cell.1
          generalize q6.v.setCell ⟨w.heap.size + 1, 0, none⟩ (.bool true) = W6 at *
          refine leave_one hd6 ⟨.bool true, ?_, rfl, below_put4 hl6 (by omega)⟩
          have hc7 : (W6.putObj D (.deferred none)).cell? ⟨w.heap.size + 1, 0, none⟩ = some (.bool true) := by
            rw [World.cell?_of_block (World.putObj_heap_other (by show w.heap.size + 1 ≠ D; omega))]; exact hc6
          simp [results, Try.f6, go_sem, hc7]
        · have hlt : untilN t S < N := Nat.lt_of_le_of_ne UN.out hend
          have hat := untilN_at t S (by rw [HN.out]; exact hlt)
          obtain ⟨g, rfl, _, _, y2, y3⟩ := u5.all.cell _ hlt
          have f2 := fun q : LiesB W5 => keep1r y2 q.h
          obtain ⟨uN, huN⟩ : ∃ uN, untilN t S = uN := ⟨_, rfl⟩
          rw [huN] at f4 f2 hat hlt
          obtain ⟨ky, hky⟩ : ∃ ky, (S.getD uN (0, 0)).2 = ky := ⟨_, rfl⟩
          rw [hky] at f2 hat
          have d1 : ((uN : Int) == (N : Int)) = false := by simp; omega
          have d2 : (uN == N) = false := by simp; omega
          have d3 : (uN : Int) < (N : Int) := by omega
          have d4 : decide (uN < N) = true := decide_eq_true hlt
          have d5 : decide (ky > t) = true := decide_eq_true hat
          have d6 : decide (t < ky) = true := decide_eq_true hat
          clear y0 y1 y2 y3 y4 y5 hi hdef hD hoI H0 u5 hky huN hend hat hlt
          go_wp2_with fail
          refine plain_last 16 _ (LyingB W5) rfl rfl (by kernel_rfl) mixed (lyingB_drew W5) ?_
          simp only [List.take_succ_cons, List.take_zero]
          repeat (go_big_quiet_step (first | (go_at_call 18; (with_reducible exact (CL _).out))))
          refine wpQuiet_nil ?_
          rintro _ ⟨q6, rfl⟩
          obtain ⟨hd6, hb6, hl6, hlt6, e0, e1⟩ := FIN.out q6.v q6.h
          gi_wp2
          go_wp2_with fail
          have hc6 := hb6.cell.1
          generalize q6.v.setCell ⟨w.heap.size + 1, 0, none⟩ (.bool true) = W6 at *
          refine leave_one hd6 ⟨.bool true, ?_, rfl, below_put4 hl6 (by omega)⟩
          have hc7 : (W6.putObj D (.deferred none)).cell? ⟨w.heap.size + 1, 0, none⟩ = some (.bool true) := by
            rw [World.cell?_of_block (World.putObj_heap_other (by show w.heap.size + 1 ≠ D; omega))]; exact hc6
          simp [results, Try.f6, go_sem, hc7]

theorem walk_ReadyUntil (a : Option Addr) (len cap : Nat) (t : Int) (w : World) (hv : len ≤ 9223372036854775807 ∧ ∃ V A, OpsAt4 w a len V A) (ht : -9223372036854775808 ≤ t ∧ t ≤ 9223372036854775807) :
    Calls Try.prog 6 #[.slice a len cap, .int .i64 t] w fun E w' => E = .returned (.bool true) ∧ Below w.heap.size w w' := by
  obtain ⟨hn, V, A, hv⟩ := hv
  by_cases hf : Few4 len V
  · exact until4_core a len cap hn V A hf t w hv
  · exact until4_long a len cap hn V A hf t w hv
end Go.Proofs.Ytcipilggddpnpaa
