/-
  HeapDrops: its walk.
-/
import Derived.Test.YtcipilggddpnpaaLawDr
import Derived.Deep.LoopGhost
import Derived.Deep.Light
import Derived.Deep.Cut
import Derived.Deep.QuietTactic
import Derived.BigQuiet
import Derived.Sort.CutIn
namespace Go.Proofs.Ytcipilggddpnpaa
open Go.RowKit Go.Sort Go.Shelf Go.Maps
set_option linter.unusedVariables false
set_option linter.unusedSimpArgs false
attribute [local go_sem] Oper.semAt_some

theorem keep1d {W W' : World} {p : Addr} {v : Value} (h : W.cell? p = some v) (hb : Below W.heap.size W W') : W'.cell? p = some v := by
  rcases Nat.lt_or_ge p.block W.heap.size with hlt | hge
  · rw [hb.cell hlt]; exact h
  · simp [World.cell?, Array.getElem?_eq_none hge] at h
theorem below_dn (W : World) (n : Nat) : Below W.heap.size W (W.drewN n) := ⟨rfl, rfl, rfl, Nat.le_refl _, fun _ _ => rfl⟩
/-- A slice of ints and an answer, boxed at the beginning. -/
theorem startD (w : World) (v : Value) : Below w.heap.size w ((w.alloc (.cells #[v] 22)).alloc (.cells #[.bool false] 4)) ∧ ((w.alloc (.cells #[v] 22)).alloc (.cells #[.bool false] 4)).heap[w.heap.size]? = some (.cells #[v] 22 (0, 0)) ∧ ((w.alloc (.cells #[v] 22)).alloc (.cells #[.bool false] 4)).heap[w.heap.size + 1]? = some (.cells #[.bool false] 4 (0, 0)) ∧ ((w.alloc (.cells #[v] 22)).alloc (.cells #[.bool false] 4)).heap.size = w.heap.size + 2 := by
  refine ⟨((Below.refl _ _).alloc (Nat.le_refl _) _).alloc (by simp) _, ?_, ?_, by simp⟩
  · rw [Below.heap_alloc _ _ _ (by simp)]
    exact heap_alloc_new _ _
  · have := heap_alloc_new (w.alloc (.cells #[v] 22)) (.cells #[.bool false] 4)
    simpa using this

set_option maxHeartbeats 8000000 in
set_option maxRecDepth 100000 in
theorem drops_core (g o cap : Nat) (ys : List Int) (n : Nat) (hn : ys.length = n) (h0 : 0 < n) (h60 : n ≤ 60) (frm : Int) (hf64 : Is64 frm) (w : World) (hz : ∀ z ∈ ys, Is64 z) (hg : g < w.heap.size) (hc : ∀ i, i < n → w.cell? ⟨g, o + i, none⟩ = some (.int .i64 (ys.getD i 0))) :
    Calls Try.prog 3 #[.slice (some ⟨g, o, none⟩) n cap, .int .i64 frm] w fun e w' => e = .returned (.bool true) ∧ Below w.heap.size w w' := by
  have mixed : Try.prog.follows .mixedOrders = true := by kernel_rfl
  obtain ⟨b0, q0, r0, z0⟩ := startD w (.slice (some ⟨g, o, none⟩) n cap)
  obtain ⟨Wk, hWk⟩ : ∃ Wk, (w.alloc (.cells #[.slice (some ⟨g, o, none⟩) n cap] 22)).alloc (.cells #[.bool false] 4) = Wk := ⟨_, rfl⟩
  rw [hWk] at b0 q0 r0 z0
  have HWk := Lib.hid hWk
  have CN := Lib.hid (hs_new Wk.heap.size Wk (Nat.le_refl _))
  have CW : Hid (∀ W, Calls Try.prog 9 #[] W fun e w' => e = .returned (.bool true) ∧ Below W.heap.size W w') := fun W => awake3 W
  obtain ⟨r, hr⟩ : ∃ r, frm.tmod (n : Int) = r := ⟨_, rfl⟩
  have hr1 : -(n : Int) < r ∧ r < n := by
    rw [← hr]
    have h1 := Int.tmod_lt_of_pos frm (show (0 : Int) < n by omega)
    have h2 := Int.lt_tmod_of_pos frm (show (0 : Int) < n by omega)
    omega
  have hf : ∃ f : Nat, f < n ∧ (r + (n : Int)).tmod (n : Int) = (f : Int) := by
    have h1 := Int.tmod_lt_of_pos (r + (n : Int)) (show (0 : Int) < n by omega)
    have h2 : 0 ≤ (r + (n : Int)).tmod (n : Int) := Int.tmod_nonneg _ (by omega)
    exact ⟨((r + (n : Int)).tmod (n : Int)).toNat, by omega, by omega⟩
  obtain ⟨f, hfn, hf1⟩ := hf
  have w1 : IntKind.i64.wrap r = r := by rw [IntKind.wrap_i64]; omega
  have w2 : IntKind.i64.wrap (r + (n : Int)) = r + (n : Int) := by rw [IntKind.wrap_i64]; omega
  have w3 : IntKind.i64.wrap (f : Int) = (f : Int) := by rw [IntKind.wrap_i64]; omega
  have hn0 : ¬ (n : Int) = 0 := by omega
  have hn1 : ((n : Int) == 0) = false := beq_eq_false_iff_ne.2 (by omega)
  have hn3 : (n == 0) = false := beq_eq_false_iff_ne.2 (by omega)
  have hn2 : decide ((n : Int) > 60) = false := decide_eq_false (by omega)
  have HZ := Lib.hid hz
  have HV : Hid (Below w.heap.size w Wk ∧ Wk.heap[w.heap.size]? = some (.cells #[.slice (some ⟨g, o, none⟩) n cap] 22 (0, 0)) ∧ Wk.heap[w.heap.size + 1]? = some (.cells #[.bool false] 4 (0, 0)) ∧ Wk.heap.size = w.heap.size + 2) := ⟨b0, q0, r0, z0⟩
  have RD : Hid (∀ W, Below Wk.heap.size Wk W → W.cell? ⟨w.heap.size, 0, none⟩ = some (.slice (some ⟨g, o, none⟩) n cap) ∧ ∀ i, i < n → W.cell? ⟨g, o + i, none⟩ = some (.int .i64 (ys.getD i 0))) := fun W b => by
    refine ⟨?_, fun i hi => ?_⟩
    · have e := (b.block w.heap.size (by omega)).trans q0
      simp [World.cell?, e]
    · exact (b.cell (p := ⟨g, o + i, none⟩) (by show g < _; omega)).trans ((b0.cell (p := ⟨g, o + i, none⟩) hg).trans (hc i hi))
  clear hz hc b0 q0 r0 z0 hWk hg
  refine calls_marks Try.func3 rfl ?_
  simp only [Try.ntmps3, List.size_toArray, List.length_cons, List.length_nil, Nat.reduceAdd, Nat.reduceSub, Array.replicate_succ, Array.replicate_zero, List.push_toArray, List.append_toArray, List.nil_append, List.cons_append]
  go_wp2_with fail
  rw [HWk.out]
  refine CN.out.mono ?_
  rintro e wa ⟨hb, mb, rfl, hA, gA, a1, a2⟩
  obtain ⟨x0, _⟩ := RD.out wa gA.below
  obtain ⟨Wn, hWn⟩ : ∃ Wn, wa.alloc (.cells #[.int .i64 n] 3) = Wn := ⟨_, rfl⟩
  have gN : Grew wa Wn := by rw [← hWn]; exact (Grew.refl wa).alloc _
  have nN : NumAt Wn wa.heap.size n := by rw [← hWn]; exact heap_alloc_new _ _
  have D0 : Hid (Dr Wk.heap.size Wk Wn hb mb none wa.heap.size n []) := ⟨hA.grew gN, (gA.trans gN).below, nN, fun k hk => by have := hA.lt k hk; omega, (gA.trans gN).size⟩
  have HWn := Lib.hid hWn
  obtain ⟨y0, _⟩ := nN.cell
  clear hA gA a1 a2 gN nN hWn CN
  go_upto_region 5 with (fail)
  rw [HWn.out]
  clear x0
  go_quiet (fail)
  have D1 := Lib.hid (D0.out.lies (below_dn Wn nq))
  generalize Wn.drewN nq = W1 at *
  generalize wa.heap.size = nb at *
  clear D0 y0 HWn
  go_wp2_with fail
  go_loopg [8] n (fun gk s8 wr => ∃ i : Nat, s8 = .int .i64 i ∧ i ≤ n ∧ n - i ≤ gk ∧ Hid (∃ ro, Dr Wk.heap.size Wk wr hb mb ro nb n (entsTo ys i)))
  case atStart => exact ⟨0, rfl, Nat.zero_le _, Nat.le_refl _, none, D1.out⟩
  case round =>
    rename World => W2
    obtain ⟨i, rfl, hi, hgk, HR⟩ := hrel
    clear D1
    obtain ⟨ro, hD⟩ := HR.out
    obtain ⟨y0, _⟩ := hD.num.cell
    by_cases hlt : i < n
    · have d1 : decide ((i : Int) < (n : Int)) = true := decide_eq_true (by omega)
      have d2 : decide (i < n) = true := decide_eq_true hlt
      have d3 : (i : Int) < (n : Int) := by omega
      obtain ⟨x0, x1⟩ := RD.out W2 hD.low
      have x2 := x1 i hlt
      have hv64 : Is64 (ys.getD i 0) := HZ.out _ (by rw [List.getD_eq_getElem?_getD, List.getElem?_eq_getElem (by omega)]; exact List.getElem_mem _)
      have CP := Lib.hid (hD.put (i : Int) (ys.getD i 0) ⟨by omega, ⟨by omega, by omega⟩⟩ hv64 (fun x hx => by
        obtain ⟨j, hj, rfl⟩ := mem_ents.1 hx
        show (j : Int) ≠ (i : Int)
        omega) (by rw [len_ents]; omega))
      have NX : Hid (∀ w' ro', Dr Wk.heap.size Wk w' hb mb ro' nb n (((i : Int), ys.getD i 0) :: entsTo ys i) → ∃ ro, Dr Wk.heap.size Wk w' hb mb ro nb n (entsTo ys (i + 1))) := fun w' ro' h => ⟨ro', h⟩
      clear x1 hD HR hv64
      generalize ys.getD i 0 = v at *
      go_wp2_with fail
      refine CP.out.mono ?_
      rintro e w3' ⟨rfl, ro', h3⟩
      have H3 := Lib.hid (NX.out w3' ro' h3)
      clear h3 NX CP x0 x2 y0
      go_wp2
      go_roundg (n - (i + 1))
      case measure => omega
      case rel => exact ⟨i + 1, by go_num, by omega, Nat.le_refl _, (show Hid _ from H3.out)⟩
    · obtain rfl : i = n := by omega
      have d1 : decide ((i : Int) < (i : Int)) = false := decide_eq_false (by omega)
      have d2 : decide (i < i) = false := decide_eq_false (by omega)
      have D3 : Hid (Dr Wk.heap.size Wk W2 hb mb ro nb i (remD ys i f 0 i) ∧ ∀ k, Mine hb mb ro k → k < W2.heap.size) := ⟨hD.perm (rem_perm ys hfn), hD.heap.lt⟩
      clear hD HR
      have HMZ : Hid (∃ Z, Z = W2.heap.size) := ⟨_, rfl⟩
      obtain ⟨Z, hZ⟩ := HMZ.out
      have D4 : Hid ((Dr Wk.heap.size Wk W2 hb mb ro nb i (remD ys i f 0 (i - 0)) ∧ Marks Z [] W2 ∧ Z ≤ W2.heap.size) ∧ (∀ k, Mine hb mb ro k → k < Z) ∧ nb < Z ∧ Wk.heap.size ≤ Z) := ⟨⟨D3.out.1, trivial, by omega⟩, by rw [hZ]; exact D3.out.2, by rw [hZ]; exact (Array.getElem?_eq_some_iff.1 D3.out.1.num).1, by rw [hZ]; exact D3.out.1.base⟩
      have HZB : Hid ((∀ k, Mine hb mb ro k → k < Z) ∧ nb < Z ∧ Wk.heap.size ≤ Z) := D4.out.2
      clear hZ HMZ D3
      go_wp2_with fail
      clear y0
      refine wp_loop_ghost_k (fun (k' : Nat) (a' : Act) (w' : World) => ∃ (u9 u10 u11 u12 u13 u14 u15 u16 u17 u18 u19 u20 u72 u73 u74 u75 u76 u77 u78 u79 u80 u81 u82 u83 u84 u85 u86 u87 u88 u89 u90 u91 u92 u93 u94 u95 u96 u97 u98 u99 u100 u101 u102 u103 u104 u105 u106 u107 u108 u109 u110 u111 u112 u113 u114 u115 u116 u117 u118 u119 u120 u121 u122 u125 u126 u127 u128 u129 u130 u131 u132 u133 u134 u135 u136 u137 u138 u139 u140 u141 u142 u143 u144 u145 u146 u147 u148 u149 u150 u151 u152 u153 u154 u155 u156 u157 u158 u159 u160 u161 u162 u163 u164 u165 u166 : Value) (ds : List Deferred), (∃ j : Nat, u9 = Value.int IntKind.i64 (j : Int) ∧ j ≤ i ∧ i - j ≤ k' ∧ Hid (Dr Wk.heap.size Wk w' hb mb ro nb i (remD ys i f j (i - j)) ∧ Marks Z ds w' ∧ Z ≤ w'.heap.size)) ∧ a' = ({ tmps := #[Value.slice (some { block := g, off := o }) i cap, Value.int IntKind.i64 ↑f, Value.pointer (some { block := w.heap.size, off := 0 }), undef, Value.pointer (some { block := w.heap.size + 1, off := 0 }), Value.pointer (some { block := hb, off := 0 }), Value.int IntKind.i64 0, Value.pointer (some { block := nb, off := 0 }), Value.int IntKind.i64 ↑i, u9, u10, u11, u12, u13, u14, u15, u16, u17, u18, u19, u20, Value.tuple #[Value.pointer (some { block := hb, off := 0 }), Value.int IntKind.i64 0], Value.tuple #[Value.pointer (some { block := hb, off := 0 }), Value.int IntKind.i64 0], Value.pointer (some { block := hb, off := 0 }), Value.int IntKind.i64 0, Value.int IntKind.i64 0, Value.bool false, Value.bool false, Value.pointer (some { block := hb, off := 0 }), Value.bool false, Value.bool false, Value.bool false, Value.slice (some { block := g, off := o }) i cap, Value.int IntKind.i64 ↑i, Value.bool false, Value.bool false, Value.bool false, Value.slice (some { block := g, off := o }) i cap, Value.int IntKind.i64 ↑i, Value.bool false, Value.bool false, undef, undef, undef, undef, undef, undef, undef, undef, undef, Value.slice (some { block := g, off := o }) i cap, Value.int IntKind.i64 ↑i, Value.int IntKind.i64 frm, Value.int IntKind.i64 ↑i, Value.int IntKind.i64 r, Value.int IntKind.i64 ↑i, Value.int IntKind.i64 (r + ↑i), Value.int IntKind.i64 ↑i, Value.int IntKind.i64 ↑f, Value.int IntKind.i64 ↑i, Value.int IntKind.i64 ↑i, Value.bool false, u62, u63, u64, u65, u66, u67, u68, u69, u70, u71, u72, u73, u74, u75, u76, u77, u78, u79, u80, u81, u82, u83, u84, u85, u86, u87, u88, u89, u90, u91, u92, u93, u94, u95, u96, u97, u98, u99, u100, u101, u102, u103, u104, u105, u106, u107, u108, u109, u110, u111, u112, u113, u114, u115, u116, u117, u118, u119, u120, u121, u122, undef, undef, u125, u126, u127, u128, u129, u130, u131, u132, u133, u134, u135, u136, u137, u138, u139, u140, u141, u142, u143, u144, u145, u146, u147, u148, u149, u150, u151, u152, u153, u154, u155, u156, u157, u158, u159, u160, u161, u162, u163, u164, u165, u166, undef], defers := ds } : Act)) i ?st ?rd
      case st =>
        (repeat apply Exists.intro)
        refine ⟨?_, rfl⟩
        exact ⟨0, rfl, Nat.zero_le _, by omega, D4.out.1⟩
      case rd =>
        intro gk _ W3 hinv
        obtain ⟨u9, hinv⟩ := hinv
        obtain ⟨u10, hinv⟩ := hinv
        obtain ⟨u11, hinv⟩ := hinv
        obtain ⟨u12, hinv⟩ := hinv
        obtain ⟨u13, hinv⟩ := hinv
        obtain ⟨u14, hinv⟩ := hinv
        obtain ⟨u15, hinv⟩ := hinv
        obtain ⟨u16, hinv⟩ := hinv
        obtain ⟨u17, hinv⟩ := hinv
        obtain ⟨u18, hinv⟩ := hinv
        obtain ⟨u19, hinv⟩ := hinv
        obtain ⟨u20, hinv⟩ := hinv
        obtain ⟨u72, hinv⟩ := hinv
        obtain ⟨u73, hinv⟩ := hinv
        obtain ⟨u74, hinv⟩ := hinv
        obtain ⟨u75, hinv⟩ := hinv
        obtain ⟨u76, hinv⟩ := hinv
        obtain ⟨u77, hinv⟩ := hinv
        obtain ⟨u78, hinv⟩ := hinv
        obtain ⟨u79, hinv⟩ := hinv
        obtain ⟨u80, hinv⟩ := hinv
        obtain ⟨u81, hinv⟩ := hinv
        obtain ⟨u82, hinv⟩ := hinv
        obtain ⟨u83, hinv⟩ := hinv
        obtain ⟨u84, hinv⟩ := hinv
        obtain ⟨u85, hinv⟩ := hinv
        obtain ⟨u86, hinv⟩ := hinv
        obtain ⟨u87, hinv⟩ := hinv
        obtain ⟨u88, hinv⟩ := hinv
        obtain ⟨u89, hinv⟩ := hinv
        obtain ⟨u90, hinv⟩ := hinv
        obtain ⟨u91, hinv⟩ := hinv
        obtain ⟨u92, hinv⟩ := hinv
        obtain ⟨u93, hinv⟩ := hinv
        obtain ⟨u94, hinv⟩ := hinv
        obtain ⟨u95, hinv⟩ := hinv
        obtain ⟨u96, hinv⟩ := hinv
        obtain ⟨u97, hinv⟩ := hinv
        obtain ⟨u98, hinv⟩ := hinv
        obtain ⟨u99, hinv⟩ := hinv
        obtain ⟨u100, hinv⟩ := hinv
        obtain ⟨u101, hinv⟩ := hinv
        obtain ⟨u102, hinv⟩ := hinv
        obtain ⟨u103, hinv⟩ := hinv
        obtain ⟨u104, hinv⟩ := hinv
        obtain ⟨u105, hinv⟩ := hinv
        obtain ⟨u106, hinv⟩ := hinv
        obtain ⟨u107, hinv⟩ := hinv
        obtain ⟨u108, hinv⟩ := hinv
        obtain ⟨u109, hinv⟩ := hinv
        obtain ⟨u110, hinv⟩ := hinv
        obtain ⟨u111, hinv⟩ := hinv
        obtain ⟨u112, hinv⟩ := hinv
        obtain ⟨u113, hinv⟩ := hinv
        obtain ⟨u114, hinv⟩ := hinv
        obtain ⟨u115, hinv⟩ := hinv
        obtain ⟨u116, hinv⟩ := hinv
        obtain ⟨u117, hinv⟩ := hinv
        obtain ⟨u118, hinv⟩ := hinv
        obtain ⟨u119, hinv⟩ := hinv
        obtain ⟨u120, hinv⟩ := hinv
        obtain ⟨u121, hinv⟩ := hinv
        obtain ⟨u122, hinv⟩ := hinv
        obtain ⟨u125, hinv⟩ := hinv
        obtain ⟨u126, hinv⟩ := hinv
        obtain ⟨u127, hinv⟩ := hinv
        obtain ⟨u128, hinv⟩ := hinv
        obtain ⟨u129, hinv⟩ := hinv
        obtain ⟨u130, hinv⟩ := hinv
        obtain ⟨u131, hinv⟩ := hinv
        obtain ⟨u132, hinv⟩ := hinv
        obtain ⟨u133, hinv⟩ := hinv
        obtain ⟨u134, hinv⟩ := hinv
        obtain ⟨u135, hinv⟩ := hinv
        obtain ⟨u136, hinv⟩ := hinv
        obtain ⟨u137, hinv⟩ := hinv
        obtain ⟨u138, hinv⟩ := hinv
        obtain ⟨u139, hinv⟩ := hinv
        obtain ⟨u140, hinv⟩ := hinv
        obtain ⟨u141, hinv⟩ := hinv
        obtain ⟨u142, hinv⟩ := hinv
        obtain ⟨u143, hinv⟩ := hinv
        obtain ⟨u144, hinv⟩ := hinv
        obtain ⟨u145, hinv⟩ := hinv
        obtain ⟨u146, hinv⟩ := hinv
        obtain ⟨u147, hinv⟩ := hinv
        obtain ⟨u148, hinv⟩ := hinv
        obtain ⟨u149, hinv⟩ := hinv
        obtain ⟨u150, hinv⟩ := hinv
        obtain ⟨u151, hinv⟩ := hinv
        obtain ⟨u152, hinv⟩ := hinv
        obtain ⟨u153, hinv⟩ := hinv
        obtain ⟨u154, hinv⟩ := hinv
        obtain ⟨u155, hinv⟩ := hinv
        obtain ⟨u156, hinv⟩ := hinv
        obtain ⟨u157, hinv⟩ := hinv
        obtain ⟨u158, hinv⟩ := hinv
        obtain ⟨u159, hinv⟩ := hinv
        obtain ⟨u160, hinv⟩ := hinv
        obtain ⟨u161, hinv⟩ := hinv
        obtain ⟨u162, hinv⟩ := hinv
        obtain ⟨u163, hinv⟩ := hinv
        obtain ⟨u164, hinv⟩ := hinv
        obtain ⟨u165, hinv⟩ := hinv
        obtain ⟨u166, hinv⟩ := hinv
        obtain ⟨ds, hinv⟩ := hinv
        obtain ⟨hrel, ha⟩ := hinv
        subst ha
        try dsimp only
        intro _ _ _ _
        obtain ⟨j, rfl, hj, hgk2, HJ⟩ := hrel
        clear D4
        have y0 := HJ.out.1.num.cell.1
        by_cases hjl : j < i
        · have d1 : decide ((j : Int) < (i : Int)) = true := decide_eq_true (by omega)
          have d2 : decide (j < i) = true := decide_eq_true hjl
          obtain ⟨k, hk⟩ : ∃ k, (f + j) % i = k := ⟨_, rfl⟩
          have hkn : k < i := by rw [← hk]; exact Nat.mod_lt _ (by omega)
          have hkz : (k : Int) < (i : Int) := by omega
          have q1 : IntKind.i64.wrap ((f : Int) + (j : Int)) = (f : Int) + (j : Int) := by rw [IntKind.wrap_i64]; omega
          have q2 : ((f : Int) + (j : Int)).tmod (i : Int) = (k : Int) := by rw [Int.tmod_eq_emod_of_nonneg (by omega), ← hk]; simp
          have q3 : IntKind.i64.wrap (k : Int) = (k : Int) := by rw [IntKind.wrap_i64]; omega
          obtain ⟨C, hC⟩ : ∃ C, remD ys i f (j + 1) (i - (j + 1)) = C := ⟨_, rfl⟩
          obtain ⟨v, hv⟩ : ∃ v, ys.getD k 0 = v := ⟨_, rfl⟩
          have HV2 := Lib.hid hv
          have hrem : remD ys i f j (i - j) = ((k : Int), v) :: C := by
            rw [show i - j = (i - (j + 1)) + 1 by omega, remD, hk, hC, hv]
          have HC : Hid (C = remD ys i f (j + 1) (i - (j + 1)) ∧ C.length = i - (j + 1) ∧ Diff (((k : Int), v) :: C)) := ⟨hC.symm, by rw [← hC, len_rem], by rw [← hrem]; exact rem_diff ys hfn _ _ (by omega)⟩
          have D5 : Hid (Dr Wk.heap.size Wk W3 hb mb ro nb i (((k : Int), v) :: C) ∧ Marks Z ds W3 ∧ Z ≤ W3.heap.size) := ⟨hrem ▸ HJ.out.1, HJ.out.2⟩
          clear hC hrem HJ hv
          obtain ⟨W4, hW4⟩ : ∃ W4, W3.alloc (.cells #[.int .i64 (k : Int)] 3) = W4 := ⟨_, rfl⟩
          have b4 : Below W3.heap.size W3 W4 := by rw [← hW4]; exact (Below.refl _ W3).alloc (Nat.le_refl _) _
          have i4 : NumAt W4 W3.heap.size k := by rw [← hW4]; exact heap_alloc_new _ _
          have D6 : Hid (Dr Wk.heap.size Wk W4 hb mb ro nb i (((k : Int), v) :: C) ∧ Marks Z ds W4 ∧ Z ≤ W3.heap.size ∧ NumAt W4 W3.heap.size k ∧ Z ≤ W4.heap.size) :=
            ⟨D5.out.1.lies b4, D5.out.2.1.keep (fun D hd => b4.block D (Array.getElem?_eq_some_iff.1 (D5.out.2.1.obj D hd).2).1), D5.out.2.2, i4, Nat.le_trans D5.out.2.2 b4.size⟩
          have HW4 := Lib.hid hW4
          have CP := Lib.hid D6.out.1.drop
          obtain ⟨z0, _⟩ := i4.cell
          clear b4 i4 hW4 D5
          go_upto_region 15 with (fail)
          rw [HW4.out]
          go_wp2_with fail
          refine CP.out.mono ?_
          rintro e W5 ⟨rfl, d5, k5⟩
          have mk5 : Marks Z ds W5 := D6.out.2.1.keep (fun D hd => by
            obtain ⟨h1, h2⟩ := D6.out.2.1.obj D hd
            exact k5.block D (Array.getElem?_eq_some_iff.1 h2).1 (fun hs => by have := HZB.out.1 D hs; omega))
          have n5 : NumAt W5 W3.heap.size k := (k5.block _ (Array.getElem?_eq_some_iff.1 D6.out.2.2.2.1).1 (fun hs => by have := HZB.out.1 _ hs; have := D6.out.2.2.1; omega)).trans D6.out.2.2.2.1
          have D7 : Hid (Dr Wk.heap.size Wk W5 hb mb ro nb i C ∧ Marks Z ds W5 ∧ Z ≤ W3.heap.size ∧ NumAt W5 W3.heap.size k ∧ Z ≤ W5.heap.size) := ⟨d5, mk5, D6.out.2.2.1, n5, Nat.le_trans D6.out.2.2.2.2 k5.size⟩
          have CG := Lib.hid (hs_get_none d5.heap (k : Int) ⟨by omega, by omega⟩ (fun x hx e => (List.pairwise_cons.1 HC.out.2.2).1 x hx e.symm))
          obtain ⟨x0, x1⟩ := RD.out W5 d5.low
          have x2 := x1 k hkn
          rw [HV2.out] at x2
          have y1 := d5.num.cell.1
          have z1 := n5.cell.1
          clear d5 k5 mk5 n5 CP D6 HW4 x1 z0 y0
          go_wp2_with fail
          refine CG.out.mono ?_
          rintro e W5' ⟨rfl, rfl⟩
          have CL : ∀ q : LiesB W5, Hid (Calls Try.prog 13 #[.pointer (some ⟨hb, 0, none⟩)] q.v fun E w' => E = .returned (.int .i64 C.length) ∧ LyingB W5 w') := fun q => (hs_len (D7.out.1.lies q.h).heap).mono (fun _ w' ⟨he, hw⟩ => ⟨he, q, hw.symm⟩)
          have clen : (C.length : Int) = (i : Int) - (j : Int) - 1 := by have := HC.out.2.1; omega
          have c1 : ((C.length : Int) != (i : Int) - (j : Int) - 1) = false := by rw [clen]; simp
          have c3 : IntKind.i64.wrap ((i : Int) - (j : Int)) = (i : Int) - (j : Int) := by rw [IntKind.wrap_i64]; omega
          have c4 : IntKind.i64.wrap ((i : Int) - (j : Int) - 1) = (i : Int) - (j : Int) - 1 := by rw [IntKind.wrap_i64]; omega
          have f0 := fun q : LiesB W5 => keep1d x0 q.h
          have f2 := fun q : LiesB W5 => keep1d x2 q.h
          have f3 := fun q : LiesB W5 => keep1d y1 q.h
          have f4 := fun q : LiesB W5 => keep1d z1 q.h
          haveI hin : Inhabited (LiesB W5) := ⟨⟨W5, Below.refl _ _⟩⟩
          have vv : (v != v) = false := by simp
          have HCL := Lib.hid clen
          clear x0 x2 y1 z1 CG clen
          obtain ⟨cl, hcl⟩ : ∃ cl : Nat, C.length = cl := ⟨_, rfl⟩
          simp only [hcl] at CL c1
          have HVC := Lib.hid hcl
          clear hcl
          go_wp2_with fail
          refine region_lies mixedT (by kernel_rfl) ?_
          repeat (go_big_quiet_step (first | (go_at_call 13; (with_reducible exact (CL _).out))))
          refine wpQuiet_nil ?_
          rintro _ ⟨q7, rfl⟩
          clear f0 f2 f3 f4 CL hin
          have hdC : Diff C := (List.pairwise_cons.1 HC.out.2.2).2
          obtain ⟨S, hSp, hSs⟩ := exists_sorted C hdC
          have HS : Hid (S.Perm C ∧ Sorted S ∧ S.length = cl) := ⟨hSp, hSs, hSp.length_eq.trans HVC.out⟩
          have CA := Lib.hid ((hs_all (D7.out.1.lies q7.h).heap (dr_nodup hdC)).mono (R' := fun e w' => e = .returned (.func (.func 41) #[] #[.pointer (some ⟨q7.v.heap.size, 0, none⟩)]) ∧ SeqAt q7.v.heap.size q7.v.heap.size S w' ∧ Below q7.v.heap.size q7.v w') (by
            rintro e w' ⟨S', rfl, h1, h2, h3, h4⟩
            obtain rfl : S' = S := sorted_eq (h1.trans hSp.symm) (dr_sorted h2) hSs
            exact ⟨rfl, h3, h4.below (Nat.le_refl _) (fun _ x => x.elim)⟩))
          have D8 : Hid (Dr Wk.heap.size Wk q7.v hb mb ro nb i C ∧ Marks Z ds q7.v ∧ Z ≤ W3.heap.size ∧ NumAt q7.v W3.heap.size k ∧ W3.heap.size < q7.v.heap.size) :=
            ⟨D7.out.1.lies q7.h, D7.out.2.1.keep (fun D hd => q7.h.block D (Array.getElem?_eq_some_iff.1 (D7.out.2.1.obj D hd).2).1), D7.out.2.2.1, (q7.h.block _ (Array.getElem?_eq_some_iff.1 D7.out.2.2.2.1).1).trans D7.out.2.2.2.1, Nat.lt_of_lt_of_le (Array.getElem?_eq_some_iff.1 D7.out.2.2.2.1).1 q7.h.size⟩
          clear hdC hSp hSs D7
          generalize q7.v = W7 at *
          clear q7
          have hnf : ∀ (f : Fn) (b c : Array Value) (w : World), (binOp .eql 34 (.func f b c) Value.nilFunc).run Try.prog w = .ok (.bool false) w := fun _ _ _ _ => rfl
          go_wp2_with fail
          refine CA.out.mono ?_
          rintro e W8 ⟨rfl, hseq, b8⟩
          have SQ := Lib.hid hseq
          obtain ⟨W9, hW9⟩ : ∃ W9, (W8.alloc (.cells #[.int .i64 0] 3)).alloc (.cells #[.int .i64 0, .int .i64 0] 37) = W9 := ⟨_, rfl⟩
          have b9 : Below W8.heap.size W8 W9 := by rw [← hW9]; exact ((Below.refl _ W8).alloc (Nat.le_refl _) _).alloc (by simp) _
          have z9 : W9.heap.size = W8.heap.size + 2 := by rw [← hW9]; simp
          have n9 : NumAt W9 W8.heap.size 0 := by
            unfold NumAt
            rw [← hW9, Below.heap_alloc _ _ _ (by simp)]
            exact heap_alloc_new _ _
          have k9 : KeyAt W9 (W8.heap.size + 1) 0 0 := by
            have := heap_alloc_new (W8.alloc (.cells #[.int .i64 0] 3)) (.cells #[.int .i64 0, .int .i64 0] 37)
            unfold KeyAt
            rw [← hW9]
            simpa using this
          have D9 : Hid (Dr Wk.heap.size Wk W9 hb mb ro nb i C ∧ Marks Z ds W9 ∧ Z ≤ W3.heap.size ∧ NumAt W9 W3.heap.size k ∧ W3.heap.size < W8.heap.size ∧ W9.heap.size = W8.heap.size + 2) := by
            have b : Below W7.heap.size W7 W9 := b8.trans (b9.mono b8.size)
            exact ⟨D8.out.1.lies b, D8.out.2.1.keep (fun D hd => b.block D (Array.getElem?_eq_some_iff.1 (D8.out.2.1.obj D hd).2).1), D8.out.2.2.1, (b.block _ (Array.getElem?_eq_some_iff.1 D8.out.2.2.2.1).1).trans D8.out.2.2.2.1, Nat.lt_of_lt_of_le D8.out.2.2.2.2 b8.size, z9⟩
          have HW9 := Lib.hid hW9
          have HB9 := Lib.hid b9
          have H0 : LsI W9 W8.heap.size S 0 W9 := ⟨Kept.refl _ _, n9, k9⟩
          have hoI := lsI_own (W4 := W9) (b := W8.heap.size) (S := S) (by omega)
          obtain ⟨rb, r1, r2, r3, hnth⟩ := all_nth _ _ S (by have e1 := HS.out.2.2; have e2 := HC.out.2.1; have e3 := HVC.out; omega) W8 hseq
          have l3 : W7.heap.size < W9.heap.size := by omega
          have l4 : rb < W9.heap.size := by omega
          have l5 : rb < W8.heap.size := r2
          have l6 : W7.heap.size < W8.heap.size := r3
          have FF : Hid (∀ c W, LsI W9 W8.heap.size S c W → Dr Wk.heap.size Wk W hb mb ro nb i C ∧ Marks Z ds W ∧ NumAt W W3.heap.size k) := fun c W hi => by
            have hz := D9.out.2.2.1
            have h3 := D9.out.2.2.2.2.1
            refine ⟨D9.out.1.kept hi.1 (fun b hb' hs => ?_) (fun hs => ?_) (fun b hs => ?_), D9.out.2.1.keep (fun D hd => ?_), (hi.1.block _ (Array.getElem?_eq_some_iff.1 D9.out.2.2.2.1).1 (fun hs => ?_)).trans D9.out.2.2.2.1⟩
            · have := HZB.out.1 b hb'; omega
            · have := HZB.out.2.1; omega
            · have := HZB.out.2.2; omega
            · have h2 := (D9.out.2.1.obj D hd).2
              refine hi.1.block D (Array.getElem?_eq_some_iff.1 h2).1 (fun hs => ?_)
              rcases hs with e | e
              · rw [e, show W9.heap[W8.heap.size]? = _ from n9] at h2; cases h2
              · rw [e, show W9.heap[W8.heap.size + 1]? = _ from k9] at h2; cases h2
            · omega
          clear hseq b8 b9 z9 n9 k9 hW9 D8 CA r1 r2 r3
          go_wp2_with fail
          rw [HW9.out]
          refine wp_rangeNth (gf := 41) (lb := #[.pointer (some ⟨W7.heap.size, 0, none⟩)]) (encs := enN S) (Kp := Pair2 W7.heap.size rb) (N := S.length) (w0 := W8) ?hg ?eg hnth ?kt ?kb HB9.out ?ps (LsI W9 W8.heap.size S) (fun _ _ _ => False) hoI ?hix H0 ?round ?done ?stop
          case hg => rfl
          case eg => exact enters_of Try.func41 (by kernel_rfl) rfl
          case kt => exact fun h k => h.trans k
          case kb => exact fun W l o o' h1 h2 h3 => Pair2.put l3 l4 W l o o' h1 h2 h3
          case ps => exact fun _ => rfl
          case hix => exact fun c s A B row hs _ _ => hs
          case stop => intro D c k W5 _ _ hx; exact hx.elim
          case round =>
            intro l c Wr hks hi
            have hmem := HS.out.1.mem_iff.1 (mem_getD hks)
            have hne := (List.pairwise_cons.1 HC.out.2.2).1 _ hmem
            rw [HC.out.1] at hmem
            obtain ⟨jj, _, ej⟩ := mem_rem.1 hmem
            obtain ⟨dd, hdd⟩ : ∃ dd, (f + jj) % i = dd := ⟨_, rfl⟩
            have hdn : dd < i := by rw [← hdd]; exact Nat.mod_lt _ (by omega)
            obtain ⟨vy, hvy⟩ : ∃ vy, ys.getD dd 0 = vy := ⟨_, rfl⟩
            rw [hdd, hvy] at ej
            rw [ej] at hne
            have hne : (k : Int) ≠ (dd : Int) := hne
            have er1 : rid S c = (dd : Int) := by show (S.getD c (0, 0)).1 = _; rw [ej]
            have er2 : rky S c = vy := by show (S.getD c (0, 0)).2 = _; rw [ej]
            obtain ⟨pu, hpu⟩ : ∃ pu, prevK S c = pu := ⟨_, rfl⟩
            have hah : c ≠ 0 → ah pu ((dd : Int), vy) = true := fun h => by
              obtain ⟨c', rfl⟩ : ∃ c', c = c' + 1 := ⟨c - 1, by omega⟩
              have := prev_ah HS.out.2.1 hks
              rw [ej, hpu] at this
              exact this
            have hc60 : c < 1099511627776 := by have e1 := HS.out.2.2; have e2 := HC.out.2.1; have e3 := HVC.out; omega
            have NXT : Hid (∀ W, LsI W9 W8.heap.size S c W → LsI W9 W8.heap.size S (c + 1) (((W.setCell ⟨W8.heap.size + 1, 0, none⟩ (.int .i64 vy)).setCell ⟨W8.heap.size + 1, 1, none⟩ (.int .i64 (dd : Int))).setCell ⟨W8.heap.size, 0, none⟩ (.int .i64 ((c : Int) + 1)))) := fun W h => by
              have := h.next
              rw [er1, er2] at this
              exact this
            unfold enN
            rw [er1, er2]
            have HVY := Lib.hid hvy
            have HPU := Lib.hid hpu
            clear ej hmem er1 er2 hdd hvy hpu
            obtain ⟨p1, p2⟩ := pu
            gi_wp2
            refine ⟨KeepsFrom.refl _ _, Pair2.refl _ _ _, fun Wb hbz => ?_⟩
            have hi2 := hbz.own hoI hi
            obtain ⟨W11, hW11⟩ : ∃ W11, Wb.alloc (.cells #[.int .i64 vy, .int .i64 (dd : Int)] 37) = W11 := ⟨_, rfl⟩
            have b11 : Below Wb.heap.size Wb W11 := by rw [← hW11]; exact (Below.refl _ Wb).alloc (Nat.le_refl _) _
            have k11 : KeyAt W11 Wb.heap.size vy (dd : Int) := by unfold KeyAt; rw [← hW11]; exact heap_alloc_new _ _
            have i11 := hi2.lies b11
            obtain ⟨fd, fm, fn⟩ := FF.out c W11 i11
            obtain ⟨x0, x1⟩ := RD.out W11 fd.low
            have x2 := x1 dd hdn
            rw [HVY.out] at x2
            have y1 := fd.num.cell.1
            have z1 := fn.cell.1
            have m0 := i11.2.1.cell.1
            have l0 := i11.2.2.c0
            have l1 := i11.2.2.c1
            rw [HPU.out] at l0 l1
            simp only [] at l0 l1
            have k0 := k11.c0
            have k1 := k11.c1
            have HW11 := Lib.hid hW11
            have I11 : Hid (LsI W9 W8.heap.size S c W11 ∧ Below Wb.heap.size Wb W11 ∧ W9.heap.size ≤ Wb.heap.size) := ⟨i11, b11, hi2.1.size⟩
            have e1 : decide ((dd : Int) < 0) = false := decide_eq_false (by omega)
            have e2 : decide ((dd : Int) ≥ (i : Int)) = false := decide_eq_false (by omega)
            have e2' : decide ((i : Int) ≤ (dd : Int)) = false := decide_eq_false (by omega)
            have e2n : decide (i ≤ dd) = false := decide_eq_false (by omega)
            have e3 : (dd : Int) < (i : Int) := by omega
            have e3' : decide (dd < i) = true := decide_eq_true hdn
            have e4 : ((dd : Int) == (k : Int)) = false := by simp; omega
            have e4n : (dd == k) = false := by simp; omega
            have e5 : IntKind.i64.wrap (dd : Int) = (dd : Int) := by rw [IntKind.wrap_i64]; omega
            have e6 : IntKind.i64.wrap ((c : Int) + 1) = (c : Int) + 1 := by rw [IntKind.wrap_i64]; omega
            have vy0 : (vy != vy) = false := by simp
            have FIN : Hid (∀ W12, Below W11.heap.size W11 W12 → postNth W9.heap.size (Pair2 W7.heap.size rb) (LsI W9 W8.heap.size S) (fun _ _ _ => False) c Wb .normal { tmps := #[], defers := [] } (((W12.setCell ⟨W8.heap.size + 1, 0, none⟩ (.int .i64 vy)).setCell ⟨W8.heap.size + 1, 1, none⟩ (.int .i64 (dd : Int))).setCell ⟨W8.heap.size, 0, none⟩ (.int .i64 ((c : Int) + 1)))) := fun W12 b12 => by
              have i12 := I11.out.1.lies b12
              have bb : Below Wb.heap.size Wb W12 := I11.out.2.1.trans (b12.mono I11.out.2.1.size)
              have kk : Kept (fun i => i = W8.heap.size ∨ i = W8.heap.size + 1) Wb (((W12.setCell ⟨W8.heap.size + 1, 0, none⟩ (.int .i64 vy)).setCell ⟨W8.heap.size + 1, 1, none⟩ (.int .i64 (dd : Int))).setCell ⟨W8.heap.size, 0, none⟩ (.int .i64 ((c : Int) + 1))) :=
                Kept.trans ⟨bb.os, bb.tape, bb.output, bb.size, fun k hk _ => bb.block k hk⟩ (i12.kept _ _ _)
              have hz := D9.out.2.2.2.2.2
              have hs := I11.out.2.2
              exact ⟨kk.from _ (fun i e => by omega), ⟨kk.block _ (by omega) (by omega), kk.block _ (by omega) (by omega)⟩, NXT.out W12 i12⟩
            have SET : Hid (∀ W12, Below W11.heap.size W11 W12 → (W12.cell? ⟨W8.heap.size + 1, 0, none⟩ = some (.int .i64 (prevK S c).2) ∧ W12.frozen? ⟨W8.heap.size + 1, 0, none⟩ = false) ∧ ((W12.setCell ⟨W8.heap.size + 1, 0, none⟩ (.int .i64 vy)).cell? ⟨W8.heap.size + 1, 1, none⟩ = some (.int .i64 (prevK S c).1) ∧ (W12.setCell ⟨W8.heap.size + 1, 0, none⟩ (.int .i64 vy)).frozen? ⟨W8.heap.size + 1, 1, none⟩ = false) ∧ ((W12.setCell ⟨W8.heap.size + 1, 0, none⟩ (.int .i64 vy)).setCell ⟨W8.heap.size + 1, 1, none⟩ (.int .i64 (dd : Int))).cell? ⟨W8.heap.size, 0, none⟩ = some (.int .i64 (c : Int)) ∧ ((W12.setCell ⟨W8.heap.size + 1, 0, none⟩ (.int .i64 vy)).setCell ⟨W8.heap.size + 1, 1, none⟩ (.int .i64 (dd : Int))).frozen? ⟨W8.heap.size, 0, none⟩ = false) := fun W12 b12 => by
              have i12 := I11.out.1.lies b12
              exact set_two i12.2.1 i12.2.2 vy (dd : Int)
            have HBB := Lib.hid b11
            have CB := Lib.hid (before_any p2 p1 vy (dd : Int) W11)
            have K4 : Hid (W11.cell? ⟨W8.heap.size, 0, none⟩ = some (.int .i64 (c : Int)) ∧ W11.cell? ⟨Wb.heap.size, 0, none⟩ = some (.int .i64 vy) ∧ W11.cell? ⟨Wb.heap.size, 1, none⟩ = some (.int .i64 (dd : Int))) := ⟨m0, k0, k1⟩
            clear hbz hi2 hW11 b11 k11 i11 fd fm fn x1 hoI H0 hnth hi FF
            gi_upto_region 28 with (fail)
            rw [HW11.out]
            by_cases hc0 : c = 0
            · subst hc0
              have d8 : decide (((0 : Nat) : Int) > 0) = false := by decide
              have d9 : decide ((0 : Int) < ((0 : Nat) : Int)) = false := by decide
              have FN := Lib.hid (FIN.out W11 (Below.refl _ _))
              obtain ⟨⟨s0, s1⟩, ⟨s2, s3⟩, s4, s5⟩ := SET.out W11 (Below.refl _ _)
              gi_wp2_with fail
              refine ⟨trivial, ?_⟩
              gi_wp2_with fail
              exact FN.out
            · have d8 : decide ((c : Int) > 0) = true := decide_eq_true (by omega)
              have d9 : decide ((0 : Int) < (c : Int)) = true := decide_eq_true (by omega)
              have d10 : decide (0 < c) = true := decide_eq_true (by omega)
              rw [hah hc0] at CB
              gi_wp2_with fail
              refine ⟨trivial, (CallsIn.inRound l (callsIn_wide.2 CB.out)).mono ?_⟩
              rintro E W12 ⟨rfl, g12⟩
              have FN := Lib.hid (FIN.out W12 g12.below)
              obtain ⟨⟨s0, s1⟩, ⟨s2, s3⟩, s4, s5⟩ := SET.out W12 g12.below
              have m0' := keep1d K4.out.1 g12.below
              have k0' := keep1d K4.out.2.1 g12.below
              have k1' := keep1d K4.out.2.2 g12.below
              clear g12 x0 x2 y1 z1 m0 l0 l1 k0 k1
              gi_wp2_with fail
              exact FN.out
          case done =>
            intro D W10 hD hi hdef
            obtain ⟨fd, fm, fn⟩ := FF.out _ W10 hi
            have m0 := hi.2.1.cell.1
            rw [HS.out.2.2] at m0
            have y1 := fd.num.cell.1
            have D10 : Hid (Dr Wk.heap.size Wk W10 hb mb ro nb i C ∧ Marks Z ({ target := .collected D, args := #[] } :: ds) W10 ∧ Z ≤ W10.heap.size) := by
              have hz := D9.out.2.2.1
              have h3 := D9.out.2.2.2.2.1
              have h4 := D9.out.2.2.2.2.2
              have h5 := hi.1.size
              exact ⟨fd, Marks.cons D9.out.2.1 hD (by omega) fm hdef, by omega⟩
            have q9 : IntKind.i64.wrap ((j : Int) + 1) = (j : Int) + 1 := by rw [IntKind.wrap_i64]; omega
            have HRM : Hid (remD ys i f (j + 1) (i - (j + 1)) = C) := HC.out.1.symm
            clear fd fm fn hi hdef hD FF H0 hoI hnth
            go_wp2_with fail
            go_roundg (i - (j + 1))
            case measure => go_light; omega
            case rel =>
              refine ⟨j + 1, by go_num, by go_light; omega, Nat.le_refl _, ?_⟩
              rw [HRM.out]
              exact D10
        · have hji : j = i := by omega
          subst hji
          have d1 : decide ((j : Int) < (j : Int)) = false := decide_eq_false (by omega)
          have d2 : decide (j < j) = false := decide_eq_false (by omega)
          have HF : Hid (Marks Z ds W3 ∧ Below Wk.heap.size Wk W3 ∧ Wk.heap.size ≤ W3.heap.size) := ⟨HJ.out.2.1, HJ.out.1.low, HJ.out.1.base⟩
          clear HJ
          go_wp2_with fail
          refine (CW.out _).mono ?_
          rintro e W4 ⟨rfl, b4⟩
          have r4 : W4.heap[w.heap.size + 1]? = some (.cells #[.bool false] 4 (0, 0)) := (b4.block _ (by have := HV.out.2.2.2; have := HF.out.2.2; omega)).trans ((HF.out.2.1.block _ (by have := HV.out.2.2.2; omega)).trans HV.out.2.2.1)
          have c4 : W4.cell? ⟨w.heap.size + 1, 0, none⟩ = some (.bool false) := by simp [World.cell?, r4]
          have c5 : W4.frozen? ⟨w.heap.size + 1, 0, none⟩ = false := by simp [World.frozen?, r4]
          have mk4 : Marks Z ds W4 := HF.out.1.keep (fun D hd => b4.block D (Array.getElem?_eq_some_iff.1 (HF.out.1.obj D hd).2).1)
          have mk5 : Marks w.heap.size ds (W4.setCell ⟨w.heap.size + 1, 0, none⟩ (.bool true)) := by
            have h1 := HV.out.2.2.2
            have h2 := HZB.out.2.2
            refine marks_low (by omega) (mk4.keep (fun D hd => ?_))
            have h3 := (mk4.obj D hd).1
            exact Below.heap_setCell _ _ _ _ (by show D ≠ w.heap.size + 1; omega)
          have b5 : Below w.heap.size w (W4.setCell ⟨w.heap.size + 1, 0, none⟩ (.bool true)) := by
            have h1 := HV.out.1
            exact (h1.trans ((HF.out.2.1.trans (b4.mono HF.out.2.2)).mono h1.size)).setCell (p := ⟨w.heap.size + 1, 0, none⟩) (Nat.le_succ _) _
          have r5 : (W4.setCell ⟨w.heap.size + 1, 0, none⟩ (.bool true)).heap[w.heap.size + 1]? = some (.cells #[.bool true] 4 (0, 0)) := by simp [World.setCell, Array.getElem?_modify, r4]
          have H5 := Lib.hid (And.intro mk5 (And.intro b5 r5))
          clear mk4 mk5 b5 r5 r4 b4 HF
          go_wp2_with fail
          generalize W4.setCell ⟨w.heap.size + 1, 0, none⟩ (.bool true) = W5 at *
          refine leaves_marks (Nat.le_refl _) ds W5 H5.out.1 H5.out.2.1 ?_
          intro W' hb' hk
          have e6 : W'.heap[w.heap.size + 1]? = some (.cells #[.bool true] 4 (0, 0)) := (hk (w.heap.size + 1) (fun D hD e => by
            rw [← e, H5.out.2.2] at hD
            cases hD)).trans H5.out.2.2
          have c6 : W'.cell? ⟨w.heap.size + 1, 0, none⟩ = some (.bool true) := by simp [World.cell?, e6]
          exact ⟨.bool true, by simp [results, Try.f3, go_sem, c6], rfl, hb'⟩
end Go.Proofs.Ytcipilggddpnpaa
