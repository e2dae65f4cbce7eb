/-
  The walk of ReadyParts.
-/
import Derived.Test.YtcipilggddpnpaaRx3
import Derived.Test.YtcipilggddpnpaaQx1
import Derived.Deep.QuietTactic
import Derived.BigQuiet
namespace Go.Proofs.Ytcipilggddpnpaa
open Go.RowKit Go.Sort Go.Shelf Go.Maps
set_option linter.unusedVariables false
set_option linter.unusedSimpArgs false
attribute [local go_sem] Oper.semAt_some

set_option maxHeartbeats 1000000 in
set_option maxRecDepth 100000 in
theorem parts4_long (a : Option Addr) (n cap : Nat) (hn : n ≤ 9223372036854775807) (V : Nat → Int × Ent × List Ent) (A : Nat → Option Addr × Nat) (a2 : Option Addr) (n2 cap2 : Nat) (hn2 : n2 ≤ 9223372036854775807) (V2 : Nat → Int × Ent × List Ent) (A2 : Nat → Option Addr × Nat) (hf : ¬ (Few4 n V ∧ Few4 n2 V2)) (x y : Int) (w : World) (hv : OpsAt4 w a n V A) (hv2 : OpsAt4 w a2 n2 V2 A2) :
    Calls Try.prog 4 #[.slice a n cap, .slice a2 n2 cap2, .agg #[.int .i64 x, .int .i64 y]] w fun E w' => E = .returned (.bool true) ∧ Below w.heap.size w w' := by
  obtain ⟨b0, _⟩ := Two2.start w x y
  obtain ⟨Wk, hWk⟩ : ∃ Wk, w.alloc (.cells #[.int .i64 x, .int .i64 y] 41) = Wk := ⟨_, rfl⟩
  rw [hWk] at b0
  have B0 := Lib.hid b0
  have HWk := Lib.hid hWk
  have C1 := Lib.hid (qnew_any w.heap.size Wk b0.size)
  have CW : Hid (∀ W, Calls Try.prog 18 #[] W fun E w' => E = .returned (.bool true) ∧ Below W.heap.size W w') := fun W => awake4 W
  by_cases h1 : Few4 n V
  · have CF : Hid (∀ W, Below w.heap.size w W → Calls Try.prog 17 #[.slice a n cap] W fun e w' => e = .returned (.bool true) ∧ Grew W w') := fun W b => few4_any W a n cap V A (hv.below b) hn true ⟨fun _ => h1, fun _ => rfl⟩
    have CG : Hid (∀ W, Below w.heap.size w W → Calls Try.prog 17 #[.slice a2 n2 cap2] W fun e w' => e = .returned (.bool false) ∧ Grew W w') := fun W b => few4_any W a2 n2 cap2 V2 A2 (hv2.below b) hn2 false ⟨fun h => (by cases h), fun h => absurd ⟨h1, h⟩ hf⟩
    clear hv hv2 hf b0 hWk h1
    go_enter Try.func4, Try.ntmps4
    go_wp2_with fail
    rw [HWk.out]
    refine C1.out.mono ?_
    rintro E w1 ⟨q, rfl, h1, g1, o1⟩
    have B1' : Hid (Below w.heap.size w w1) := B0.out.trans (g1.below.mono B0.out.size)
    clear h1 g1 o1 C1
    go_wp2_with fail
    refine (CF.out _ B1'.out).mono ?_
    rintro E w2 ⟨rfl, g2⟩
    have B2' : Hid (Below w.heap.size w w2) := B1'.out.trans (g2.below.mono B1'.out.size)
    clear g2 CF
    go_wp2_with fail
    refine (CG.out _ B2'.out).mono ?_
    rintro E w3 ⟨rfl, g3⟩
    have B3' : Hid (Below w.heap.size w w3) := B2'.out.trans (g3.below.mono B2'.out.size)
    clear g3 CG
    go_wp2_with fail
    refine (CW.out _).mono ?_
    rintro E w4 ⟨rfl, b4⟩
    have B4' : Hid (Below w.heap.size w w4) := B3'.out.trans (b4.mono B3'.out.size)
    clear b4
    go_wp2
    go_ret
    exact ⟨rfl, B4'.out⟩
  · have CF : Hid (∀ W, Below w.heap.size w W → Calls Try.prog 17 #[.slice a n cap] W fun e w' => e = .returned (.bool false) ∧ Grew W w') := fun W b => few4_any W a n cap V A (hv.below b) hn false ⟨fun h => (by cases h), fun h => absurd h h1⟩
    clear hv hv2 hf b0 hWk h1
    go_enter Try.func4, Try.ntmps4
    go_wp2_with fail
    rw [HWk.out]
    refine C1.out.mono ?_
    rintro E w1 ⟨q, rfl, h1, g1, o1⟩
    have B1' : Hid (Below w.heap.size w w1) := B0.out.trans (g1.below.mono B0.out.size)
    clear h1 g1 o1 C1
    go_wp2_with fail
    refine (CF.out _ B1'.out).mono ?_
    rintro E w2 ⟨rfl, g2⟩
    have B2' : Hid (Below w.heap.size w w2) := B1'.out.trans (g2.below.mono B1'.out.size)
    clear g2 CF
    go_wp2_with fail
    refine (CW.out _).mono ?_
    rintro E w4 ⟨rfl, b4⟩
    have B4' : Hid (Below w.heap.size w w4) := B2'.out.trans (b4.mono B2'.out.size)
    clear b4
    go_wp2
    go_ret
    exact ⟨rfl, B4'.out⟩

/-- The same calls, in a world of the class. -/
theorem lies_call_at {P : Program} {f : FuncId} {args : Array Value} {w : World} {v : Value} (h : ∀ W, Below w.heap.size w W → Calls P f args W fun e w' => e = .returned v ∧ Below W.heap.size W w') (q : LiesB w) : Calls P f args q.v fun e w' => e = .returned v ∧ LyingB w w' :=
  (h q.v q.h).mono fun _ w' ⟨he, hb⟩ => ⟨he, ⟨w', q.h.trans (hb.mono q.h.size)⟩, rfl⟩

set_option maxHeartbeats 8000000 in
set_option maxRecDepth 100000 in
theorem parts4_core (a : Option Addr) (n cap : Nat) (hn : n ≤ 9223372036854775807) (V : Nat → Int × Ent × List Ent) (A : Nat → Option Addr × Nat) (a2 : Option Addr) (n2 cap2 : Nat) (hn2 : n2 ≤ 9223372036854775807) (V2 : Nat → Int × Ent × List Ent) (A2 : Nat → Option Addr × Nat) (hf : Few4 n V) (hf2 : Few4 n2 V2) (x y : Int) (hx64 : Is64 x) (w : World) (hv : OpsAt4 w a n V A) (hv2 : OpsAt4 w a2 n2 V2 A2) :
    Calls Try.prog 4 #[.slice a n cap, .slice a2 n2 cap2, .agg #[.int .i64 x, .int .i64 y]] w fun E w' => E = .returned (.bool true) ∧ Below w.heap.size w w' := by
  have mixed : Try.prog.follows .mixedOrders = true := by kernel_rfl
  have hnf : ∀ (f : Fn) (b c : Array Value) (w : World), (binOp .eql 53 (.func f b c) Value.nilFunc).run Try.prog w = .ok (.bool false) w := fun _ _ _ _ => rfl
  obtain ⟨i0, hi0, hz0, hz1, hz2⟩ := info_parts (P := Try.prog) (e := 37) (z := .agg #[.int .i64 0, .int .i64 0]) (size := 2) (bytes := 16) (by kernel_rfl)
  have HI : Hid (Try.prog.info? 37 = some i0 ∧ i0.zero = some (.agg #[.int .i64 0, .int .i64 0]) ∧ i0.size = 2 ∧ i0.bytes = 16) := ⟨hi0, hz0, hz1, hz2⟩
  obtain ⟨b0, t0⟩ := Two2.start w x y
  obtain ⟨Wk, hWk⟩ : ∃ Wk, w.alloc (.cells #[.int .i64 x, .int .i64 y] 41) = Wk := ⟨_, rfl⟩
  rw [hWk] at b0 t0
  have HWk := Lib.hid hWk
  have C1 := Lib.hid (qnew_any Wk.heap.size Wk (Nat.le_refl _))
  have CF : Hid (∀ W, Below w.heap.size w W → Calls Try.prog 17 #[.slice a n cap] W fun e w' => e = .returned (.bool true) ∧ Grew W w') := fun W b => few4_any W a n cap V A (hv.below b) hn true ⟨fun _ => hf, fun _ => rfl⟩
  have CG : Hid (∀ W, Below w.heap.size w W → Calls Try.prog 17 #[.slice a2 n2 cap2] W fun e w' => e = .returned (.bool true) ∧ Grew W w') := fun W b => few4_any W a2 n2 cap2 V2 A2 (hv2.below b) hn2 true ⟨fun _ => hf2, fun _ => rfl⟩
  have CW : Hid (∀ W, Calls Try.prog 18 #[] W fun E w' => E = .returned (.bool true) ∧ Below W.heap.size W w') := fun W => awake4 W
  have HV : Hid (OpsAt4 w a n V A ∧ Few4 n V ∧ Below w.heap.size w Wk ∧ Two2 Wk w.heap.size x y ∧ Is64 x) := ⟨hv, hf, b0, t0, hx64⟩
  have HV2 : Hid (OpsAt4 w a2 n2 V2 A2 ∧ Few4 n2 V2 ∧ n2 ≤ 40 ∧ n ≤ 40) := ⟨hv2, hf2, hf2.1, hf.1⟩
  have n40 : n ≤ 40 := hf.1
  have HTB : Hid (w.heap.size < Wk.heap.size) := t0.lt
  clear hv hf b0 t0 hWk hn hv2 hf2 hn2 hi0 hz0 hz1 hz2
  refine calls_marks Try.func4 rfl ?_
  simp only [Try.ntmps4, List.size_toArray, List.length_cons, List.length_nil, Nat.reduceAdd, Nat.reduceSub, Array.replicate_succ, Array.replicate_zero, List.push_toArray, List.append_toArray, List.nil_append, List.cons_append]
  go_wp2_with fail
  rw [HWk.out]
  refine C1.out.mono ?_
  rintro E w1 ⟨q0, rfl, h1, g1, o1⟩
  have H1 : Hid (Qs Wk.heap.size w1 q0 [] ∧ Grew Wk w1) := ⟨h1, g1⟩
  clear h1 g1 o1 C1
  go_wp2_with fail
  refine (CF.out _ (HV.out.2.2.1.trans (H1.out.2.below.mono HV.out.2.2.1.size))).mono ?_
  rintro E w2' ⟨rfl, g2⟩
  have G2 := Lib.hid g2
  clear g2 CF
  go_wp2_with fail
  refine (CG.out _ (HV.out.2.2.1.trans ((H1.out.2.trans G2.out).below.mono HV.out.2.2.1.size))).mono ?_
  rintro E w2 ⟨rfl, g2⟩
  have T2 : Hid (At4 Wk.heap.size Wk (w2.alloc (.cells #[.slice none 0 0] 48)) q0.qb w2.heap.size 0) := at4_new H1.out.1 H1.out.2 (G2.out.trans g2) (Nat.le_refl _)
  clear g2 H1 CG G2
  go_wp2_with fail
  generalize hW3 : w2.alloc (.cells #[.slice none 0 0] 48) = W3 at *
  clear hW3
  generalize w2.heap.size = rf at *
  generalize q0.qb = qb at *
  go_loopg [9] n (fun gk s9 wr => ∃ i : Nat, s9 = .int .i64 i ∧ i ≤ n ∧ n - i ≤ gk ∧ Hid (At4 Wk.heap.size Wk wr qb rf i))
  case atStart => exact ⟨0, rfl, Nat.zero_le _, Nat.le_refl _, T2⟩
  case round =>
    rename World => W2
    obtain ⟨i, rfl, hi, hgk, HR⟩ := hrel
    clear T2
    by_cases hlt : i < n
    · have d1 : decide ((i : Int) < (n : Int)) = true := decide_eq_true (by omega)
      have d2 : decide (i < n) = true := decide_eq_true hlt
      have d3 : (i : Int) < (n : Int) := by omega
      have bw : Below w.heap.size w W2 := by
        obtain ⟨q, S, _, _, _, b⟩ := HR.out
        exact HV.out.2.2.1.trans (b.mono HV.out.2.2.1.size)
      have hK := HV.out.1.keys bw (X := Wk.heap.size) HV.out.2.2.1.size hlt
      have h20 := HV.out.2.1.2 i hlt
      rcases HV.out.1.below bw with hz | ⟨g, o, rfl, hg, hc⟩
      · omega
      obtain ⟨⟨c0, c1, c2, c3⟩, hx, _, hcap⟩ := hc i hlt
      have CD := Lib.hid (HR.out.does (Nat.le_refl _) (by omega) (V i).1 (V i).2.1.2 (V i).2.1.1 hx (V i).2.2 (A i).1 (A i).2 hK h20 hcap)
      clear hc hg hx HR hK h20 hcap bw
      generalize V i = v at *
      generalize A i = av at *
      obtain ⟨v1, ⟨v2, v3⟩, v4⟩ := v
      obtain ⟨a1, a2'⟩ := av
      simp only [] at c0 c1 c2 c3 CD
      generalize v4.length = vl at *
      go_wp2_with fail
      refine CD.out.mono ?_
      rintro E w3 ⟨rfl, h3⟩
      have H3 := Lib.hid h3
      clear h3 CD c0 c1 c2 c3
      go_wp2
      go_roundg (n - (i + 1))
      case measure => omega
      case rel => exact ⟨i + 1, by go_num, by omega, Nat.le_refl _, H3⟩
    · obtain rfl : i = n := by omega
      have d1 : decide ((i : Int) < (i : Int)) = false := decide_eq_false (by omega)
      have d2 : decide (i < i) = false := decide_eq_false (by omega)
      obtain ⟨q, S, hp, rfl, hS, hlow⟩ := HR.out
      have hown : ∀ k, q.own k → k < W2.heap.size := fun k hk => hp.queue.lt k hk
      have hrf := hp.ref.lt
      obtain ⟨W3', hW3⟩ : ∃ W3', W2.alloc (.cells #[.slice none 0 0] 46) = W3' := ⟨_, rfl⟩
      have b3 : Below W2.heap.size W2 W3' := by rw [← hW3]; exact below_al W2 _
      have x3 : W3'.heap[W2.heap.size]? = some (.cells #[.slice none 0 0] 46 (0, 0)) := by rw [← hW3]; exact heap_alloc_new _ _
      obtain ⟨lb, hlb⟩ : ∃ lb, W2.heap.size = lb := ⟨_, rfl⟩
      have P3 : Hid (Pq Wk.heap.size W3' q rf S ∧ Below Wk.heap.size Wk W3' ∧ S.length ≤ 800 ∧ W3'.heap[lb]? = some (.cells #[.slice none 0 0] 46 (0, 0)) ∧ lb < W3'.heap.size ∧ (∀ k, q.own k → k < lb) ∧ rf < lb) :=
        ⟨hp.lies b3, hlow.trans (b3.mono hp.base), by omega, by rw [← hlb]; exact x3, by rw [← hlb]; exact (Array.getElem?_eq_some_iff.1 x3).1, by rw [← hlb]; exact hown, by rw [← hlb]; exact hrf⟩
      have TW : Hid (∀ W, Below Wk.heap.size Wk W → W.cell? ⟨w.heap.size, 0, none⟩ = some (.int .i64 x) ∧ W.cell? ⟨w.heap.size, 1, none⟩ = some (.int .i64 y)) := fun W b => (HV.out.2.2.2.1.below b HTB.out).cells
      have HW3 := Lib.hid hW3
      have HLB := Lib.hid hlb
      have CU := Lib.hid (quntil_raw P3.out.1.queue (List.Perm.refl S) P3.out.1.sorted P3.out.1.diff (by have := P3.out.2.2.1; omega) y)
      obtain ⟨x0, x1⟩ := TW.out _ P3.out.2.1
      clear hp hown hrf hlow hS HR b3 x3 hW3 hgk hi
      go_upto_region 10 with (fail)
      rw [HW3.out]
      try rw [hlb]
      clear hlb
      go_wp2_with fail
      refine CU.out.mono ?_
      rintro E w4 ⟨cu, ct, cb, rfl, hU, k4⟩
      have b4 : Below W3'.heap.size W3' w4 := k4.below (Nat.le_refl _) (fun _ x => x.elim)
      have P4 : Hid (Pq Wk.heap.size w4 q rf S ∧ Below Wk.heap.size Wk w4 ∧ UnR W3'.heap.size w4 cu ct cb y S ∧ w4.heap[lb]? = some (.cells #[.slice none 0 0] 46 (0, 0)) ∧ W3'.heap.size ≤ w4.heap.size) :=
        ⟨P3.out.1.lies b4, P3.out.2.1.trans (b4.mono P3.out.1.base), hU, (b4.block lb P3.out.2.2.2.2.1).trans P3.out.2.2.2.1, b4.size⟩
      have CC := Lib.hid (qcopy_any P4.out.1.queue P4.out.1.diff (fun x hx => ⟨by have := (P4.out.1.good x hx).1.1; omega, (P4.out.1.good x hx).2⟩) (by have := P3.out.2.2.1; omega) P4.out.1.base)
      clear b4 hU k4 CU x0 x1
      go_wp2_with fail
      refine CC.out.mono ?_
      rintro E w5 ⟨r, rfl, hr, k5, ro, rfb, rt⟩
      have b5 : Below w4.heap.size w4 w5 := k5.below (Nat.le_refl _) (fun _ x => x.elim)
      have P5 : Hid (Pq Wk.heap.size w5 q rf S ∧ Below Wk.heap.size Wk w5 ∧ Sty4 Wk.heap.size W3'.heap.size lb w5 r rf cu ct cb y S ∧ (∀ b, r.own b → (w4.heap.size ≤ b ∧ b < w5.heap.size) ∨ b = q.fb) ∧ w4.heap.size ≤ w5.heap.size) :=
        ⟨P4.out.1.lies b5, P4.out.2.1.trans (b5.mono P4.out.1.base), ⟨⟨hr, (P4.out.1.lies b5).ref, P4.out.1.sorted, P4.out.1.diff, P4.out.1.good, Nat.le_trans P4.out.1.base b5.size, P4.out.1.rb⟩, P4.out.2.2.1.lies b5, (b5.block lb (Array.getElem?_eq_some_iff.1 P4.out.2.2.2.1).1).trans P4.out.2.2.2.1⟩, fun b hb => (ro b hb).imp (fun e => ⟨e, hr.lt b hb⟩) (fun e => e), b5.size⟩
      clear b5 hr k5 ro rfb rt CC
      obtain ⟨x0, x1⟩ := TW.out _ P5.out.2.1
      obtain ⟨len, hlen⟩ : ∃ len, S.length = len := ⟨_, rfl⟩
      have HLEN := Lib.hid hlen
      have L8 : len ≤ 800 := by have := P3.out.2.2.1; omega
      have B0 : Hid (Below w5.heap.size w5 w5.drew) := (grewN w5 1).below
      have TW5 : Hid (∀ W', Below w5.heap.size w5 W' → W'.cell? ⟨w.heap.size, 0, none⟩ = some (.int .i64 x)) := fun W' b => (TW.out W' (P5.out.2.1.trans (b.mono P5.out.1.base))).1
      have CS : Hid (∀ W', Below w5.heap.size w5 W' → Calls Try.prog 22 #[.pointer (some ⟨r.qb, 0, none⟩), .pointer (some ⟨rf, 0, none⟩)] W' fun E w' => E = .returned (.bool true) ∧ Below w5.heap.size w5 w' ∧ w'.cell? ⟨w.heap.size, 0, none⟩ = some (.int .i64 x)) := fun W' b => by
        refine (same4_any (P5.out.2.2.1.copy.lies b) (by omega)).mono ?_
        rintro E w' ⟨rfl, h2⟩
        have b2 := b.trans (h2.mono b.size)
        exact ⟨rfl, b2, TW5.out w' b2⟩
      obtain ⟨mm, hmm⟩ : ∃ mm, min x.toNat len = mm := ⟨_, rfl⟩
      have CL : Hid (∀ W', Below w5.heap.size w5 W' → Calls Try.prog 24 #[.pointer (some ⟨q.qb, 0, none⟩), .int .i64 x] W' fun E w' => ∃ a7 c7, E = .returned (.slice a7 mm c7) ∧ Below w5.heap.size w5 w' ∧ KeysAt w' a7 (S.take x.toNat) ∧ w'.cell? ⟨w.heap.size, 0, none⟩ = some (.int .i64 x)) := fun W' b => by
        refine (qleast_any (P5.out.1.lies b).queue (List.Perm.refl S) P5.out.1.sorted P5.out.1.diff (by omega) x).mono ?_
        rintro E w' ⟨a7, c7, rfl, hr, hk⟩
        have b2 := b.trans ((hk.below (Nat.le_refl _) (fun _ x => x.elim)).mono b.size)
        obtain ⟨x1, x2⟩ := all4_own hr (fun x hx => (P5.out.1.good x (List.mem_of_mem_take hx)).2)
        rw [hlen, hmm]
        exact ⟨a7, c7, rfl, b2, x1.keys, TW5.out w' b2⟩
      have CR : Hid (∀ W' a7, Below w5.heap.size w5 W' → KeysAt W' a7 (S.take x.toNat) → Calls Try.prog 25 #[.pointer (some ⟨rf, 0, none⟩), .int .i64 x] W' fun E w' => ∃ a8 c8, E = .returned (.slice a8 mm c8) ∧ Below w5.heap.size w5 w' ∧ Hid (KeysAt w' a7 (S.take x.toNat) ∧ KeysAt w' a8 (S.take x.toNat)) ∧ w'.cell? ⟨w.heap.size, 0, none⟩ = some (.int .i64 x)) := fun W' a7 b ha => by
        refine (rleast4_any (P5.out.1.lies b).ref (fun x hx => (P5.out.1.good x hx).2) (by omega) x HV.out.2.2.2.2).mono ?_
        rintro E w' ⟨a8, c8, rfl, h1, _, h2⟩
        have b2 := b.trans (h2.mono b.size)
        rw [hlen, hmm]
        exact ⟨a8, c8, rfl, b2, ⟨ha.kept (kept_lies (S := fun _ => False) h2) (fun _ _ x => x), h1.keys⟩, TW5.out w' b2⟩
      have CK : Hid (∀ W' a7 a8 c7 c8, Below w5.heap.size w5 W' → Hid (KeysAt W' a7 (S.take x.toNat) ∧ KeysAt W' a8 (S.take x.toNat)) → Calls Try.prog 23 #[.slice a7 mm c7, .slice a8 mm c8] W' fun E w' => E = .returned (.bool true) ∧ Below w5.heap.size w5 w' ∧ w'.cell? ⟨w.heap.size, 0, none⟩ = some (.int .i64 x)) := fun W' a7 a8 c7 c8 b ha => by
        have e : (S.take x.toNat).length = mm := by rw [List.length_take, hlen, hmm]
        have := keys_any W' a7 a8 (S.take x.toNat) (S.take x.toNat) c7 c8 ha.out.1 ha.out.2 (by omega) (by omega)
        rw [e, decide_eq_true rfl] at this
        refine this.mono ?_
        rintro E w' ⟨rfl, h2⟩
        have b2 := b.trans (h2.below.mono b.size)
        exact ⟨rfl, b2, TW5.out w' b2⟩
      clear TW5 hlen hmm
      go_wp2_with fail
      go_region_held3 (fun w' => w'.cell? ⟨w.heap.size, 0, none⟩ = some (.int .i64 x))
        (first | exact x0 | exact s6 | exact s7 | exact s8 | exact s9)
        (first
          | (go_at_call 23; (refine (CK.out _ _ _ _ _ hq8 ha8).mono ?_); rintro E w9 ⟨rfl, hq9, s9⟩)
          | (go_at_call 25; (refine (CR.out _ _ hq7 ha7).mono ?_); rintro E w8 ⟨a8, c8, rfl, hq8, ha8, s8⟩)
          | (go_at_call 24; (refine (CL.out _ hq6).mono ?_); rintro E w7 ⟨a7, c7, rfl, hq7, ha7, s7⟩)
          | (go_at_call 22; (refine (CS.out _ B0.out).mono ?_); rintro E w6 ⟨rfl, hq6, s6⟩))
      have P9 : Hid (Pq Wk.heap.size w9 q rf S ∧ Below Wk.heap.size Wk w9 ∧ Sty4 Wk.heap.size W3'.heap.size lb w9 r rf cu ct cb y S ∧ (∀ b, r.own b → (w4.heap.size ≤ b ∧ b < w9.heap.size) ∨ b = q.fb) ∧ w4.heap.size ≤ w9.heap.size) :=
        ⟨P5.out.1.lies hq9, P5.out.2.1.trans (hq9.mono P5.out.1.base), P5.out.2.2.1.lies hq9, fun b hb => (P5.out.2.2.2.1 b hb).imp (fun e => ⟨e.1, Nat.lt_of_lt_of_le e.2 hq9.size⟩) (fun e => e), Nat.le_trans P5.out.2.2.2.2 hq9.size⟩
      clear CK CR CL CS B0 P5 hq9 hq8 hq7 hq6 ha8 ha7 s6 s7 s8 s9 x0 x1
      obtain ⟨ot, hot⟩ : ∃ ot, w9.heap.size = ot := ⟨_, rfl⟩
      obtain ⟨W10, hW10⟩ : ∃ W10, w9.alloc (.cells #[.slice none 0 0] 48) = W10 := ⟨_, rfl⟩
      have g10 : Grew w9 W10 := by rw [← hW10]; exact (Grew.refl w9).alloc _
      have e2 : W10.heap[ot]? = some (.cells #[.slice none 0 0] 48 (0, 0)) := by rw [← hW10, ← hot]; exact heap_alloc_new _ _
      have R1 := P9.out.1.ref.grew g10
      obtain ⟨v, v1, ⟨a0, cap0, rfl⟩, v3⟩ := ref_slice4 R1
      obtain ⟨a7, c7, w11, hrun, hrow, hgrow⟩ := slice_copied (v3 W10.drew (fun p u h => h)) (by have := HLEN.out; omega)
      have lth : ot < W10.heap.size := (Array.getElem?_eq_some_iff.1 e2).1
      have o7 : w11.heap[ot]? = some (.cells #[.slice none 0 0] 48 (0, 0)) := (hgrow.block _ lth (fun e => by cases e)).trans e2
      have d4 : w11.cell? ⟨ot, 0, none⟩ = some (.slice none 0 0) := by simp [World.cell?, o7]
      have d5 : w11.frozen? ⟨ot, 0, none⟩ = false := by simp [World.frozen?, o7]
      have x1 : W10.cell? ⟨ot, 0, none⟩ = some (.slice none 0 0) := by simp [World.cell?, e2]
      obtain ⟨W11, hW11⟩ : ∃ W11, w11.setCell ⟨ot, 0, none⟩ (.slice a7 S.length c7) = W11 := ⟨_, rfl⟩
      have k11 : Kept (fun i => i = ot) W10 W11 := by
        rw [← hW11]
        exact (((Kept.refl (fun i => i = ot) W10).drew).grown hgrow (fun k e => by cases e)).setCell (p := ⟨ot, 0, none⟩) (.inl rfl) _
      have kF : Kept (fun _ => False) w9 W11 := (g10.kept _).andThen k11 (fun i e => .inr (by omega))
      have r11 : RefIs Wk.heap.size W11 ot S := by
        rw [← hW11]
        refine ref_store o7 rfl ?_
        have := hrow
        rw [List.take_length] at this
        refine ⟨this.1, ?_⟩
        rcases this.2 with e | ⟨g, c, cur, e, hb, r⟩
        · exact .inl e
        · exact .inr ⟨g, c, cur, e, Nat.le_trans P9.out.1.base (Nat.le_trans g10.size hb), r⟩
      have p11 : Pq Wk.heap.size W11 q ot S := ⟨P9.out.1.queue.kept kF (fun _ _ x => x), r11, P9.out.1.sorted, P9.out.1.diff, P9.out.1.good, Nat.le_trans P9.out.1.base kF.size, by have := P9.out.1.base; omega⟩
      have N4 : Hid (Num4 Wk.heap.size W3'.heap.size w4.heap.size lb ot rf q r) := ⟨P3.out.2.2.2.2.2.1, fun b hb => (P9.out.2.2.2.1 b hb).imp (fun e => ⟨e.1, by have := e.2; omega⟩) (fun e => e), P3.out.2.2.2.2.1, P4.out.2.2.2.2, by have := P9.out.2.2.2.2; omega, P3.out.2.2.2.2.2.2⟩
      have H11 : Hid (Two4 Wk.heap.size q ot W11 W11 800 0 ∧ Sty4 Wk.heap.size W3'.heap.size lb W11 r rf cu ct cb y S ∧ Below Wk.heap.size Wk W11 ∧ Pq Wk.heap.size W11 q ot S ∧ lb < W11.heap.size ∧ Wk.heap.size ≤ lb) :=
        ⟨⟨⟨q, S, p11, rfl, by have := HLEN.out; omega, fun k hk => .inl hk⟩, Kept.refl _ _, Below.refl _ _⟩, P9.out.2.2.1.kept kF (fun _ _ x => x) (fun _ _ x => x.elim) (fun _ _ x => x.elim) (fun x => x), P9.out.2.1.trans (kF.below P9.out.1.base (fun _ x => x.elim)), p11, by have := N4.out.ord; have := kF.size; omega, by have := P3.out.2.2.2.2.2.1 q.qb (.inr (.inl rfl)); have := P3.out.1.queue.base.1; omega⟩
      have HW10 := Lib.hid hW10
      have HOT := Lib.hid hot
      have HW11 := Lib.hid hW11
      have EL := HLEN.out
      rw [EL] at hrun v1
      have HW11' : Hid (w11.setCell ⟨ot, 0, none⟩ (.slice a7 len c7) = W11) := by rw [← EL]; exact hW11
      clear hrow hgrow o7 e2 k11 kF R1 v3 hW11 hW10 r11 p11 g10 lth hot EL P9 P4 P3 HW11
      go_wp2_with fail
      rw [HW10.out]
      try rw [HOT.out]
      go_cut [] from 81 to 92 (fun wx => wx = W11)
      case first =>
        go_region_law (refine step_ran4 rfl _ _ 46 rfl rfl rfl hrun ?_)
        all_goals (rw [HW11'.out]; go_wp2_with fail; go_meet; exact rfl)
      case rest =>
        have hc := hcut.symm
        clear hcut
        subst hc
        clear x1 d4 d5 hrun v1 HW11' HW10 HOT
        go_wp2_with fail
        go_loopg [14] n2 (fun gk s14 wr => ∃ j : Nat, s14 = .int .i64 j ∧ j ≤ n2 ∧ n2 - j ≤ gk ∧ Hid (Two4 Wk.heap.size q ot W11 wr 800 j))
        case atStart => exact ⟨0, rfl, Nat.zero_le _, Nat.le_refl _, H11.out.1⟩
        case round =>
          rename World => W6
          obtain ⟨j, rfl, hj, hgk2, HR⟩ := hrel
          have n240 : n2 ≤ 40 := HV2.out.2.2.1
          have bX : Below Wk.heap.size Wk W6 := H11.out.2.2.1.trans HR.out.below
          have bw : Below w.heap.size w W6 := HV.out.2.2.1.trans (bX.mono HV.out.2.2.1.size)
          by_cases hlt : j < n2
          · have e1 : decide ((j : Int) < (n2 : Int)) = true := decide_eq_true (by omega)
            have e2 : decide (j < n2) = true := decide_eq_true hlt
            have e3 : (j : Int) < (n2 : Int) := by omega
            have hK := HV2.out.1.keys bw (X := Wk.heap.size) HV.out.2.2.1.size hlt
            have h20 := HV2.out.2.1.2 j hlt
            rcases HV2.out.1.below bw with hz | ⟨g, o, rfl, hg, hc⟩
            · omega
            obtain ⟨⟨c0, c1, c2, c3⟩, hx, _, hcap⟩ := hc j hlt
            have CD := Lib.hid (HR.out.does H11.out.2.2.2.1.base (by omega) (V2 j).1 (V2 j).2.1.2 (V2 j).2.1.1 hx (V2 j).2.2 (A2 j).1 (A2 j).2 hK h20 hcap)
            clear hc hg hx HR hK h20 hcap bw bX
            generalize V2 j = v at *
            generalize A2 j = av at *
            obtain ⟨v1, ⟨v2, v3⟩, v4⟩ := v
            obtain ⟨a1, a2'⟩ := av
            simp only [] at c0 c1 c2 c3 CD
            generalize v4.length = vl at *
            go_wp2_with fail
            refine CD.out.mono ?_
            rintro E w3 ⟨rfl, h3⟩
            have H3 := Lib.hid h3
            clear h3 CD c0 c1 c2 c3
            go_wp2
            go_roundg (n2 - (j + 1))
            case measure => omega
            case rel => exact ⟨j + 1, by go_num, by omega, Nat.le_refl _, H3⟩
          · obtain rfl : j = n2 := by omega
            have e1 : decide ((j : Int) < (j : Int)) = false := decide_eq_false (by omega)
            have e2 : decide (j < j) = false := decide_eq_false (by omega)
            obtain ⟨⟨q', S', p', hq', hS', ht'⟩, hkp, hbl⟩ := HR.out
            have st6 := H11.out.2.1.beside H11.out.2.2.2.1 hkp N4.out
            obtain ⟨F, sq, hF⟩ := st6.iter.own (by have := HLEN.out; omega)
            have SQ := Lib.hid sq
            obtain ⟨N, hN⟩ : ∃ N, untilN y S = N := ⟨_, rfl⟩
            have hNl := untilN_le y S
            rw [hN] at SQ hNl
            obtain ⟨B, hB⟩ : ∃ B, W6.heap.size + 3 = B := ⟨_, rfl⟩
            have hl6 : lb < W6.heap.size := (Array.getElem?_eq_some_iff.1 st6.box).1
            have hoI := lstJ_own (W1 := W6) (B := B) (lb := lb) (T := S) hl6
            have H0 : LstJ W6 B lb S 0 W6 := ⟨none, 0, st6.box, ⟨rfl, .inl ⟨rfl, rfl⟩⟩, Kept.refl _ _⟩
            have P6 : Hid (Sty4 Wk.heap.size W3'.heap.size lb W6 r rf cu ct cb y S ∧ Pq Wk.heap.size W6 q' ot S' ∧ q'.qb = q.qb ∧ (∀ k, q'.turns k → q.turns k ∨ W11.heap.size ≤ k) ∧ S'.length ≤ 2000 ∧ Below Wk.heap.size Wk W6 ∧ (∀ k, F k → W3'.heap.size ≤ k ∧ k < W6.heap.size) ∧ untilN y S = N ∧ N ≤ S.length) := ⟨st6, p', hq', ht', by omega, bX, hF, hN, hNl⟩
            have NB : lb < W6.heap.size ∧ W6.heap.size + 3 = B ∧ lb < W3'.heap.size := ⟨hl6, hB, N4.out.ord.1⟩
            clear p' hS' ht' hkp hbl st6 sq hF HR hN hNl hB hl6 bw bX hq'
            go_wp2_with fail
            refine wp_rangeOwn (gf := 52) (lb := #[.pointer (some ⟨cu, 0, none⟩), .pointer (some ⟨ct, 0, none⟩)]) (encs := enU S) (F := F) (c := 1) (N := N) (w0 := W6) ?hg ?eg SQ.out (Below.refl _ _) ?ps (LstJ W6 B lb S) (fun _ _ _ => False) hoI ?hix H0 ?round ?done ?stop
            case hg => rfl
            case eg => exact enters_of Try.func52 (by kernel_rfl) rfl
            case ps => exact fun _ => rfl
            case hix => exact fun c s A B row hs _ _ => hs
            case stop => intro D c k W5 _ _ hx; exact hx.elim
            case round =>
              intro l k Wr hks hi hz
              have hkl : k < S.length := Nat.lt_of_lt_of_le hks P6.out.2.2.2.2.2.2.2.2
              obtain ⟨xx, hxx⟩ : ∃ xx, S.getD k (0, 0) = xx := ⟨_, rfl⟩
              have HX := Lib.hid hxx
              unfold enU
              rw [hxx]
              clear hxx
              obtain ⟨id, tm⟩ := xx
              simp only []
              obtain ⟨W7, hW7⟩ : ∃ W7, Wr.alloc (.cells #[.int .i64 tm, .int .i64 id] 37) = W7 := ⟨_, rfl⟩
              have g7 : Grew Wr W7 := by rw [← hW7]; exact (Grew.refl Wr).alloc _
              have i7 := hi.grew g7
              have kb7 : W7.heap[Wr.heap.size]? = some (.cells #[.int .i64 tm, .int .i64 id] 37 (0, 0)) := by rw [← hW7]; exact heap_alloc_new _ _
              have HW7 := Lib.hid hW7
              have HG7 := Lib.hid g7
              clear hW7 g7 hi
              gi_wp2
              rw [HW7.out]
              refine ⟨(HG7.out.kept (fun _ => False)).from _ (fun _ x => x.elim), fun j ob hj ho _ => (HG7.out.block (Array.getElem?_eq_some_iff.1 ho).1).trans ho, fun Wb hbz => ?_⟩
              have i8 := hbz.own hoI i7
              have kb8 : Wb.heap[Wr.heap.size]? = some (.cells #[.int .i64 tm, .int .i64 id] 37 (0, 0)) := hbz.own (s := 0) (cells_own rfl) kb7
              obtain ⟨ar, cr, h1, h2, h3⟩ := i8
              have c1 : Wb.cell? ⟨lb, 0, none⟩ = some (.slice ar k cr) := by simp [World.cell?, h1]
              have c3 : Wb.cell? ⟨Wr.heap.size, 0, none⟩ = some (.int .i64 tm) := by simp [World.cell?, kb8]
              have c4 : Wb.cell? ⟨Wr.heap.size, 1, none⟩ = some (.int .i64 id) := by simp [World.cell?, kb8]
              have zb : B ≤ Wb.heap.size := by have := (Array.getElem?_eq_some_iff.1 kb8).1; omega
              have H3 : Hid (Wb.heap[lb]? = some (.cells #[.slice ar k cr] 46 (0, 0)) ∧ Wb.ownsRow B 37 2 (.slice ar k cr) k (flatR (S.take k)) ∧ Kept (fun i => i = lb) W6 Wb) := ⟨h1, h2, h3⟩
              obtain ⟨kb, hkb⟩ : ∃ kb, Wr.heap.size = kb := ⟨_, rfl⟩
              rw [hkb] at c3 c4 ⊢
              have L8' : S.length ≤ 800 := by have := HLEN.out; omega
              clear h1 h2 h3 kb7 kb8 hbz i7 H0 hz hkb
              gi_wp2_with (gi_at_builtin; refine wpListIn_append_own _ rfl _ _ 46 rfl B 37 i0 (.agg #[.int .i64 0, .int .i64 0]) 2 16 Try.underlying46 HI.out.1 HI.out.2.1 HI.out.2.2.1 HI.out.2.2.2 rfl (by decide) _ _ _ rfl (own_kept H3.out.2.1 (fun g e => Below.heap_alloc _ _ _ (own_lt H3.out.2.1 g e))) ⟨Wb.heap.size, 0, none⟩ 1 1 [.int .i64 tm, .int .i64 id] rfl rfl (fun j u hj => two_cells _ _ _ hj) (by simp [Value.oneCell']) (by unfold maxLen; omega) (by omega) (by simp; omega) ?_; intro v2 w2 ho2 hg2 _; obtain ⟨ax2, cap2, rfl⟩ := own_form ho2; have HN2 := Lib.hid (LstJ.next (W1 := W6) (B := B) (by omega) (by omega) hkl H3.out.1 H3.out.2.1 H3.out.2.2 _ (by rw [HX.out]; exact ho2) hg2); obtain ⟨_, d1, d2⟩ := HN2.out; have HK2 := Lib.hid (LstJ.keeps (W1 := W6) (B := B) (v2 := .slice ax2 (k + 1) cap2) (by omega) (by omega) zb H3.out.2.1 H3.out.2.2 _ hg2); clear ho2 hg2)
              refine ⟨HK2.out.1, fun i ob hi ho _ => (HK2.out.2 i (fun e => ?_) ?_).trans ho, HN2.out.1⟩
              · rcases hi with hi | hi
                · have := P6.out.2.2.2.2.2.2.1 i hi
                  omega
                · omega
              · rcases hi with hi | hi
                · have := P6.out.2.2.2.2.2.2.1 i hi
                  omega
                · omega
            case done =>
              intro D W7 hD hi hdef
              obtain ⟨ar, cr, h1, h2, h3⟩ := hi
              have c1 : W7.cell? ⟨lb, 0, none⟩ = some (.slice ar N cr) := by simp [World.cell?, h1]
              obtain ⟨pc, po⟩ := P6.out.1.ranged P6.out.2.1 P6.out.2.2.1 P6.out.2.2.2.1 H11.out.2.2.2.2.1 h3 N4.out
              have L8' : S.length ≤ 800 := by have := HLEN.out; omega
              have kk := (own_keys h2 (fun x hx => (pc.good x (List.mem_of_mem_take hx)).2)).1
              obtain ⟨ah, ch, hrow, hcall⟩ := runtil4_any pc.ref (fun x hx => (pc.good x hx).2) (by omega) y
              rw [P6.out.2.2.2.2.2.2.2.1] at hrow hcall
              have bX : Below Wk.heap.size Wk W7 := P6.out.2.2.2.2.2.1.trans (h3.below (by have := P6.out.2.1.base; omega) (fun k e => by rw [e]; exact H11.out.2.2.2.2.2))
              obtain ⟨_, tw⟩ := TW.out W7 bX
              have e7 : (S.take N).length = N := by rw [List.length_take]; have := P6.out.2.2.2.2.2.2.2.2; omega
              have hN8 : N ≤ 800 := by have := P6.out.2.2.2.2.2.2.2.2; omega
              have CU : ∀ W, Below W7.heap.size W7 W → Calls Try.prog 26 #[.pointer (some ⟨rf, 0, none⟩), .int .i64 y] W fun E w' => E = .returned (.slice ah N ch) ∧ Below W.heap.size W w' := fun W b => (hcall W b).mono fun E w' ⟨e, h⟩ => ⟨e, h ▸ Below.refl _ _⟩
              have CK : ∀ W, Below W7.heap.size W7 W → Calls Try.prog 23 #[.slice ar N cr, .slice ah N ch] W fun E w' => E = .returned (.bool true) ∧ Below W.heap.size W w' := fun W b => by
                have := keys_any W ar ah (S.take N) (S.take N) cr ch (kk.kept (kept_lies (S := fun _ => False) b) (fun _ _ x => x)) (hrow.keys.kept (kept_lies (S := fun _ => False) b) (fun _ _ x => x)) (by omega) (by omega)
                rw [e7, decide_eq_true rfl] at this
                exact this.mono fun E w' ⟨e, h⟩ => ⟨e, h.below⟩
              have CS : ∀ W, Below W7.heap.size W7 W → Calls Try.prog 22 #[.pointer (some ⟨r.qb, 0, none⟩), .pointer (some ⟨rf, 0, none⟩)] W fun E w' => E = .returned (.bool true) ∧ Below W.heap.size W w' := fun W b => same4_any (pc.lies b) (by omega)
              have CT : ∀ W, Below W7.heap.size W7 W → Calls Try.prog 22 #[.pointer (some ⟨q.qb, 0, none⟩), .pointer (some ⟨ot, 0, none⟩)] W fun E w' => E = .returned (.bool true) ∧ Below W.heap.size W w' := fun W b => by
                have := same4_any (po.lies b) (by have := P6.out.2.2.2.2.1; omega)
                rw [P6.out.2.2.1] at this
                exact this
              haveI hin : Inhabited (LiesB W7) := ⟨⟨W7, Below.refl _ _⟩⟩
              have K1 := fun p : LiesB W7 => Lib.hid (lies_call_at CU p)
              have K2 := fun p : LiesB W7 => Lib.hid (lies_call_at CK p)
              have K3 := fun p : LiesB W7 => Lib.hid (lies_call_at CS p)
              have K4 := fun p : LiesB W7 => Lib.hid (lies_call_at CT p)
              have K5 := fun p : LiesB W7 => Lib.hid (lies_call CW.out p)
              have f0 := fun p : LiesB W7 => keep1r c1 p.h
              have f1 := fun p : LiesB W7 => keep1r tw p.h
              have FIN : Hid (∀ W, Below W7.heap.size W7 W → W.heap[D]? = some (.deferred (some [])) ∧ Below w.heap.size w (W.putObj D (.deferred none))) := fun W b => by
                have hDl := (Array.getElem?_eq_some_iff.1 hdef).1
                refine ⟨(b.block D hDl).trans hdef, below_put4p (HV.out.2.2.1.trans ((bX.trans (b.mono (by have := pc.base; omega))).mono HV.out.2.2.1.size)) ?_⟩
                have := P6.out.2.1.base
                have := HV.out.2.2.1.size
                omega
              clear h1 h2 h3 pc po kk hrow hcall bX e7 CU CK CS CT hD hdef H0 hoI c1 tw
              go_wp2_with fail
              refine region_lies mixedT (by kernel_rfl) ?_
              repeat (go_big_quiet_step (first | (go_at_call 26; (with_reducible exact (K1 _).out)) | (go_at_call 23; (with_reducible exact (K2 _).out)) | (go_at_call 22; (first | (with_reducible exact (K3 _).out) | (with_reducible exact (K4 _).out))) | (go_at_call 18; (with_reducible exact (K5 _).out))))
              refine wpQuiet_nil ?_
              rintro _ ⟨q6, rfl⟩
              obtain ⟨hd6, hb6⟩ := FIN.out q6.v q6.h
              go_wp2_with fail
              refine leave_one hd6 ⟨.bool true, by simp [results, Try.f4, go_sem], rfl, hb6⟩

theorem walk_ReadyParts (a : Option Addr) (len cap : Nat) (a2 : Option Addr) (len2 cap2 : Nat) (x y : Int) (w : World) (hv : len ≤ 9223372036854775807 ∧ ∃ V A, OpsAt4 w a len V A) (hv2 : len2 ≤ 9223372036854775807 ∧ ∃ V A, OpsAt4 w a2 len2 V A) (hx : -9223372036854775808 ≤ x ∧ x ≤ 9223372036854775807) (hy : -9223372036854775808 ≤ y ∧ y ≤ 9223372036854775807) :
    Calls Try.prog 4 #[.slice a len cap, .slice a2 len2 cap2, .agg #[.int .i64 x, .int .i64 y]] w fun E w' => E = .returned (.bool true) ∧ Below w.heap.size w w' := by
  obtain ⟨hn, V, A, hv⟩ := hv
  obtain ⟨hn2, V2, A2, hv2⟩ := hv2
  by_cases hf : Few4 len V ∧ Few4 len2 V2
  · exact parts4_core a len cap hn V A a2 len2 cap2 hn2 V2 A2 hf.1 hf.2 x y hx w hv hv2
  · exact parts4_long a len cap hn V A a2 len2 cap2 hn2 V2 A2 hf x y w hv hv2
end Go.Proofs.Ytcipilggddpnpaa
