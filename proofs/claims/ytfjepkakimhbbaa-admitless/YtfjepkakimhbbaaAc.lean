/-
  admit.Load, over every slice of up to 1000 params.
-/
import Derived.Test.YtfjepkakimhbbaaAb
import Derived.BigRegionIn
import Derived.BigQuiet
namespace Go.Proofs.Ytfjepkakimhbbaa
open Go.RowKit Go.Sort Go.Shelf Go.Maps
set_option linter.unusedVariables false
set_option linter.unusedSimpArgs false
attribute [local go_sem] Oper.semAt_some

/-- A block of one number, known whole. -/
def N1 (W : World) (b : Nat) (T : TypeId) (x : Int) : Prop := W.heap[b]? = some (.cells #[.int .i64 x] T (0, 0))
theorem N1.lt {W : World} {b : Nat} {T : TypeId} {x : Int} (h : N1 W b T x) : b < W.heap.size := (Array.getElem?_eq_some_iff.1 h).1
theorem N1.cell {W : World} {b : Nat} {T : TypeId} {x : Int} (h : N1 W b T x) : W.cell? ⟨b, 0, none⟩ = some (.int .i64 x) := by
  unfold N1 at h
  simp [World.cell?, h]
theorem N1.thaw {W : World} {b : Nat} {T : TypeId} {x : Int} (h : N1 W b T x) : W.frozen? ⟨b, 0, none⟩ = false := by
  unfold N1 at h
  simp [World.frozen?, h]
theorem N1.next {W W' : World} {b : Nat} {T : TypeId} {x : Int} (h : N1 W b T x) (hb : Below W.heap.size W W') : N1 W' b T x := (hb.block b h.lt).trans h
theorem N1.kept {W W' : World} {b : Nat} {T : TypeId} {x : Int} (h : N1 W b T x) (hb : W'.heap[b]? = W.heap[b]?) : N1 W' b T x := hb.trans h
theorem N1.start (w : World) (T : TypeId) (x : Int) : N1 (w.alloc (.cells #[.int .i64 x] T)) w.heap.size T x := by
  unfold N1
  show (w.heap.push _)[w.heap.size]? = _
  simp
theorem N1.alloc {W : World} {b : Nat} {T : TypeId} {x : Int} (h : N1 W b T x) (o : Obj) : N1 (W.alloc o) b T x := h.next ((Below.refl _ _).alloc (Nat.le_refl _) _)
theorem N1.set {W : World} {b : Nat} {T : TypeId} {x : Int} (h : N1 W b T x) (x' : Int) : N1 (W.setCell ⟨b, 0, none⟩ (.int .i64 x')) b T x' := by
  unfold N1 at h ⊢
  simp [World.setCell, Array.getElem?_modify, h]
theorem N1.far {W : World} {b c : Nat} {T : TypeId} {x : Int} (h : N1 W b T x) (hc : b ≠ c) (o : Nat) (v : Value) : N1 (W.setCell ⟨c, o, none⟩ v) b T x := by
  unfold N1 at h ⊢
  rw [Below.heap_setCell _ _ _ _ hc]
  exact h
theorem N1.drew {W : World} {b : Nat} {T : TypeId} {x : Int} (h : N1 W b T x) : N1 W.drew b T x := h

/-- The three results, from block b on; what lay when the function began lies as it lay. -/
structure Ld (w W : World) (b : Nat) (s m e : Int) : Prop where
  below : Below w.heap.size w W
  s : N1 W b 3 s
  m : N1 W (b + 1) 3 m
  e : N1 W (b + 1 + 1) 26 e
theorem Ld.next {w W W' : World} {b : Nat} {s m e : Int} (h : Ld w W b s m e) (hb : Below W.heap.size W W') : Ld w W' b s m e :=
  ⟨h.below.trans (hb.mono h.below.size), h.s.next hb, h.m.next hb, h.e.next hb⟩
theorem Ld.set {w W : World} {b : Nat} {s m e : Int} (h : Ld w W b s m e) (hb : w.heap.size ≤ b) (s' m' : Int) : Ld w ((W.setCell ⟨b, 0, none⟩ (.int .i64 s')).setCell ⟨b + 1, 0, none⟩ (.int .i64 m')) b s' m' e :=
  ⟨(h.below.setCell (p := ⟨b, 0, none⟩) hb _).setCell (p := ⟨b + 1, 0, none⟩) (by show w.heap.size ≤ b + 1; omega) _, (h.s.set s').far (by omega) _ _, (h.m.far (by omega) _ _).set m', (h.e.far (by omega) _ _).far (by omega) _ _⟩
theorem Ld.set3 {w W : World} {b : Nat} {s m e : Int} (h : Ld w W b s m e) (hb : w.heap.size ≤ b) (s' m' e' : Int) : Ld w (((W.setCell ⟨b, 0, none⟩ (.int .i64 s')).setCell ⟨b + 1, 0, none⟩ (.int .i64 m')).setCell ⟨b + 1 + 1, 0, none⟩ (.int .i64 e')) b s' m' e' :=
  ⟨(h.set hb s' m').below.setCell (p := ⟨b + 1 + 1, 0, none⟩) (by show w.heap.size ≤ b + 1 + 1; omega) _, (h.set hb s' m').s.far (by omega) _ _, (h.set hb s' m').m.far (by omega) _ _, (h.set hb s' m').e.set e'⟩
theorem Ld.own {w W W' : World} {row : Option Nat} {b : Nat} {s m e : Int} {B : Nat} (h : Ld w W b s m e) (hB : w.heap.size ≤ B) (hg : W.grownBy W' row) (hr : ∀ r, row = some r → B ≤ r ∧ ∃ o : Obj, W.heap[r]? = some o ∧ o.isCells = false) : Ld w W' b s m e := by
  have k : ∀ {b T x}, N1 W b T x → N1 W' b T x := fun {b T x} hn => hn.kept (hg.block b hn.lt (fun e => by
    obtain ⟨_, o, h1, h2⟩ := hr b e.symm
    have h3 := hn
    unfold N1 at h3
    rw [h3] at h1
    cases h1
    cases h2))
  exact ⟨h.below.grown hg h.below.size (fun r e => by have := (hr r e).1; omega), k h.s, k h.m, k h.e⟩

/-- Between two rounds. -/
def LdI (w : World) (b : Nat) (h : Bool) (L : List Pa) (k : Nat) (W : World) : Prop := allB (L.take k) = true ∧ Ld w W b (sumU h (L.take k)) (maxU h (L.take k)) 0
/-- Behind a round that left. -/
def LdX (w : World) (b : Nat) (L : List Pa) (c : Code) (k : Nat) (W : World) : Prop := c = .ret ∧ allB L = false ∧ Ld w W b 0 0 1

/-- asks: both are boxed, and the function value captures the boxes. -/
theorem asks_ret (h : Bool) (c k : Int) (a : Option Addr) (n cap : Nat) (w : World) :
    Calls Try.prog 24 #[ruV h c k, .slice a n cap] w fun e w' => e = .returned (.func (.func 34) #[] #[.pointer (some ⟨w.heap.size + 1, 0, none⟩), .pointer (some ⟨w.heap.size, 0, none⟩)]) ∧ w' = (w.alloc (.cells #[.bool h, .int .i64 c, .int .i64 k] 23)).alloc (.cells #[.slice a n cap] 24) := by
  have hmf : ∀ (fn : Fn) (first cap : Array Value) (w : World), (Instr.makeFunc fn first cap).run Try.prog w = .ok (.func fn first cap) w := fun _ _ _ _ => rfl
  go_enter Try.func24, Try.ntmps24
  go_wp2
  go_ret
  exact ⟨rfl, rfl⟩

set_option maxRecDepth 100000 in
set_option maxHeartbeats 1000000 in
/-- .. where there is no row: no round. -/
theorem asks1_nil (l sb rb cap : Nat) (a : Option Addr) (J : Nat → World → Prop) (W : World) (hc : W.cell? ⟨sb, 0, none⟩ = some (.slice a 0 cap)) (h0 : J 0 W) :
    CallsIn Fence.wide 9 Try.prog 34 #[.func (.yield l) #[] #[], .pointer (some ⟨sb, 0, none⟩), .pointer (some ⟨rb, 0, none⟩)] W fun e W' => (∃ v, e = .returned v) ∧ J 0 W' := by
  refine callsIn_of_wp Try.func34 rfl trivial ?_ rfl
  simp only [Try.ntmps34, List.size_toArray, List.length_cons, List.length_nil, Nat.reduceAdd, Nat.reduceSub, Array.replicate_succ, Array.replicate_zero, List.push_toArray, List.append_toArray, List.nil_append, List.cons_append]
  gi_wp2
  gi_loopw [8] (fun i wr => i = .int .i64 0 ∧ J 0 wr ∧ wr = W) (fun _ _ => 0)
  case atStart => exact ⟨rfl, h0, rfl⟩
  case round =>
    obtain ⟨rfl, hJs, rfl⟩ := hrel
    gi_wp2
    go_end0
    exact ⟨⟨_, rfl⟩, hJs⟩

/-- The iterator, for a range over it, in whatever world has grown from w. -/
theorem asks_nth (h : Bool) (c k0 : Int) (sb rb cap : Nat) (a : Option Addr) (L : List Pa) (hlen : L.length ≤ 1000) (w : World)
    (hs : w.cell? ⟨sb, 0, none⟩ = some (.slice a L.length cap)) (hsl : sb < w.heap.size) (hr : Box3 w rb 23 (.bool h) (.int .i64 c) (.int .i64 k0)) (hp : PAt w a L) :
    ∃ g, g < w.heap.size ∧ (g = rb ∨ (L.length ≠ 0 ∧ ∃ o, a = some ⟨g, o, none⟩)) ∧ SeqNth Try.prog 34 #[.pointer (some ⟨sb, 0, none⟩), .pointer (some ⟨rb, 0, none⟩)] (enA h L) (Two2 rb g) L.length w := by
  rcases hp with hp | ⟨g, o, rfl, hg, hc⟩
  · refine ⟨rb, hr.lt, .inl rfl, fun l J Jx W hW hJ hJx hY h0 => ?_⟩
    have hcW := (hW.cell (p := ⟨sb, 0, none⟩) hsl).trans hs
    rw [hp] at hcW ⊢
    exact (asks1_nil l sb rb cap a J W hcW h0).mono fun e W' ⟨he, hj⟩ => ⟨he, .inl hj⟩
  · by_cases hz : L.length = 0
    · refine ⟨rb, hr.lt, .inl rfl, fun l J Jx W hW hJ hJx hY h0 => ?_⟩
      have hcW := (hW.cell (p := ⟨sb, 0, none⟩) hsl).trans hs
      rw [hz] at hcW ⊢
      exact (asks1_nil l sb rb cap _ J W hcW h0).mono fun e W' ⟨he, hj⟩ => ⟨he, .inl hj⟩
    refine ⟨g, hg, .inr ⟨hz, o, rfl⟩, fun l J Jx W hW hJ hJx hY h0 => ?_⟩
    refine asks1_nth h c k0 sb rb g o cap L hlen l J Jx W hJ hY ((hW.cell (p := ⟨sb, 0, none⟩) hsl).trans hs) (hr.next hW hr.lt) (Nat.lt_of_lt_of_le hg hW.size) (fun i hi => ?_) h0
    obtain ⟨⟨h1, h2, h3⟩, h4⟩ := hc i hi
    exact ⟨⟨(hW.cell (p := ⟨g, o + i * 3, none⟩) hg).trans h1, (hW.cell (p := ⟨g, o + i * 3 + 1, none⟩) hg).trans h2, (hW.cell (p := ⟨g, o + i * 3 + 2, none⟩) hg).trans h3⟩, h4⟩

set_option maxHeartbeats 2000000 in
set_option maxRecDepth 100000 in
theorem load_ok (h : Bool) (c k : Int) (hk : ruleE c k = 0) (a : Option Addr) (cap : Nat) (L : List Pa) (hl : L.length ≤ 1000) (w : World) (hp : PAt w a L) :
    Calls Try.prog 10 #[ruV h c k, .slice a L.length cap] w fun e w' => e = .returned (.tuple #[.int .i64 (loadR h L).1, .int .i64 (loadR h L).2.1, .int .i64 (loadR h L).2.2]) ∧ Below w.heap.size w w' := by
  have mixed : Try.prog.follows .mixedOrders = true := by kernel_rfl
  obtain ⟨W0, hW0⟩ : ∃ W0, (((w.alloc (.cells #[.bool h, .int .i64 c, .int .i64 k] 23)).alloc (.cells #[.int .i64 0] 3)).alloc (.cells #[.int .i64 0] 3)).alloc (.cells #[.int .i64 0] 26) = W0 := ⟨_, rfl⟩
  have z0 : W0.heap.size = w.heap.size + 4 := by rw [← hW0]; simp
  have r0 : Box3 W0 w.heap.size 23 (.bool h) (.int .i64 c) (.int .i64 k) := by
    rw [← hW0]
    exact (Box3.start w 23 (.bool h) (.int .i64 c) (.int .i64 k)).next' ((((Below.refl _ _).alloc (Nat.le_refl _) _).alloc (by simp) _).alloc (by simp <;> omega) _)
  have l0 : Ld w W0 (w.heap.size + 1) 0 0 0 := by
    rw [← hW0]
    refine ⟨((((Below.refl _ _).alloc (Nat.le_refl _) _).alloc (by simp) _).alloc (by simp; omega) _).alloc (by simp; omega) _, ?_, ?_, ?_⟩
    · have := N1.start (w.alloc (.cells #[.bool h, .int .i64 c, .int .i64 k] 23)) 3 0
      exact ((show N1 _ (w.heap.size + 1) _ _ by simpa using this).alloc _).alloc _
    · have := N1.start ((w.alloc (.cells #[.bool h, .int .i64 c, .int .i64 k] 23)).alloc (.cells #[.int .i64 0] 3)) 3 0
      exact (show N1 _ (w.heap.size + 1 + 1) _ _ by simpa using this).alloc _
    · have := N1.start (((w.alloc (.cells #[.bool h, .int .i64 c, .int .i64 k] 23)).alloc (.cells #[.int .i64 0] 3)).alloc (.cells #[.int .i64 0] 3)) 26 0
      simpa using this
  have C1 : Hid (∀ W, Calls Try.prog 13 #[.agg #[.bool h, .int .i64 c, .int .i64 k]] W fun e w' => e = .returned (.int .i64 0) ∧ Below W.heap.size W w') := fun W => by
    have := acheck_any h c k W
    rwa [hk] at this
  obtain ⟨n, hn⟩ : ∃ n, L.length = n := ⟨_, rfl⟩
  have HL := Lib.hid hn
  have HP := Lib.hid hp
  have HW := Lib.hid hW0
  have H0 := Lib.hid (And.intro z0 (And.intro r0 l0))
  have C2 := Lib.hid (fun W => asks_ret h c k a n cap W)
  rw [hn] at hl ⊢
  obtain ⟨R, hR⟩ : ∃ R, loadR h L = R := ⟨_, rfl⟩
  rw [hR]
  have HRR := Lib.hid hR
  clear hn hp hW0 z0 r0 l0 hR
  refine calls_marks Try.func10 rfl ?_
  simp only [Try.ntmps10, List.size_toArray, List.length_cons, List.length_nil, Nat.reduceAdd, Nat.reduceSub, Array.replicate_succ, Array.replicate_zero, List.push_toArray, List.append_toArray, List.nil_append, List.cons_append]
  go_wp2_with fail
  rw [HW.out]
  refine (C1.out _).mono ?_
  rintro e W1 ⟨rfl, b1⟩
  have R1 := Lib.hid (H0.out.2.1.next' b1)
  have L1 := Lib.hid (H0.out.2.2.next b1)
  have Z1 : Hid (w.heap.size + 4 ≤ W1.heap.size) := by have := b1.size; have := H0.out.1; show _ ≤ _; omega
  have p0 := R1.out.c0
  have p1 := R1.out.c1
  have p2 := R1.out.c2
  go_wp2_with fail
  refine (C2.out _).mono ?_
  rintro e W2 ⟨rfl, hW2⟩
  have B2 : Below W1.heap.size W1 W2 := by rw [hW2]; exact ((Below.refl _ _).alloc (Nat.le_refl _) _).alloc (by simp) _
  have R2 : Hid (Box3 W2 W1.heap.size 23 (.bool h) (.int .i64 c) (.int .i64 k)) := by
    rw [hW2]
    exact (Box3.start W1 23 (.bool h) (.int .i64 c) (.int .i64 k)).next' ((Below.refl _ _).alloc (Nat.le_refl _) _)
  have S2 : Hid (W2.cell? ⟨W1.heap.size + 1, 0, none⟩ = some (.slice a n cap) ∧ W2.heap.size = W1.heap.size + 2) := by
    rw [hW2]
    have h1 := heap_alloc_new (W1.alloc (.cells #[.bool h, .int .i64 c, .int .i64 k] 23)) (.cells #[.slice a n cap] 24)
    rw [World.size_alloc] at h1
    refine ⟨by unfold World.cell?; rw [h1]; rfl, by simp⟩
  have L2 := Lib.hid (L1.out.next B2)
  have P2 : Hid (PAt W2 a L) := HP.out.next (L2.out.below)
  obtain ⟨g, hg1, hg2, hnth⟩ := asks_nth h c k (W1.heap.size + 1) W1.heap.size cap a L (by rw [HL.out]; exact hl) W2 (by rw [HL.out]; exact S2.out.1) (by have := S2.out.2; omega) R2.out P2.out
  have hgw : Hid (g = W1.heap.size ∨ g < w.heap.size) := by
    rcases hg2 with e | ⟨hz, o, e⟩
    · exact .inl e
    · rcases HP.out with h' | ⟨g', o', e', hg', _⟩
      · exact absurd h' hz
      · rw [e'] at e; cases e; exact .inr hg'
  obtain ⟨cb, hcb⟩ : ∃ cb, W1.heap.size = cb := ⟨_, rfl⟩
  have HZ : Hid (w.heap.size + 4 ≤ cb ∧ W2.heap.size = cb + 2 ∧ (g = cb ∨ g < w.heap.size)) := by
    rw [← hcb]
    exact ⟨Z1.out, S2.out.2, hgw.out⟩
  have LT : Hid (cb < W2.heap.size ∧ g < W2.heap.size) := ⟨by have := HZ.out.2.1; omega, hg1⟩
  rw [HL.out] at hnth
  have hoI : OwnFrom W2.heap.size (LdI w (w.heap.size + 1) h L) := fun k A B row hs hg hr => ⟨hs.1, hs.2.own (B := W2.heap.size) L2.out.below.size hg hr⟩
  have hoX : ∀ c, OwnFrom W2.heap.size (LdX w (w.heap.size + 1) L c) := fun c k A B row hs hg hr => ⟨hs.1, hs.2.1, hs.2.2.own (B := W2.heap.size) L2.out.below.size hg hr⟩
  rw [hcb] at hnth
  clear hg1 hg2 hgw b1 hW2 p0 p1 p2 B2 Z1
  go_wp2_with fail
  clear hcb S2 R2 R1 L1
  refine wp_rangeNth (gf := 34) (lb := #[.pointer (some ⟨cb + 1, 0, none⟩), .pointer (some ⟨cb, 0, none⟩)]) (encs := enA h L) (Kp := Two2 cb g) (N := n) (w0 := W2) ?hg ?eg hnth ?kt ?kb (Below.refl _ _) ?ps (LdI w (w.heap.size + 1) h L) (LdX w (w.heap.size + 1) L) hoI hoX ⟨rfl, L2.out⟩ ?round ?done ?stop
  case hg => rfl
  case eg => exact enters_of Try.func34 (by kernel_rfl) rfl
  case kt => exact fun h k => h.trans k
  case kb => exact fun W l o o' h1 h2 h3 => Two2.put LT.out.1 LT.out.2 W l o o' h1 h2 h3
  case ps => exact fun _ => rfl
  case round =>
    intro l j Wj hj hi
    unfold enA
    obtain ⟨r, hr⟩ : ∃ r, askR h (L.getD j p0) = r := ⟨_, rfl⟩
    rw [hr]
    have HE := Lib.hid hr
    clear hr
    gi_wp2
    refine ⟨KeepsFrom.refl _ _, Two2.refl _ _ _, fun Wb hbz => ?_⟩
    obtain ⟨ha, hd⟩ := hbz.own hoI hi
    have hjl : j < L.length := by rw [HL.out]; exact hj
    have c1 := hd.s.cell
    have c2 := hd.m.cell
    have c3 := hd.e.cell
    have f1 := hd.s.thaw
    have f2 := hd.m.thaw
    have f3 := hd.e.thaw
    have HD := Lib.hid hd
    have HU := Lib.hid (uIn h ha)
    rcases Bool.eq_false_or_eq_true (okB (L.getD j p0)) with ho | ho
    · obtain ⟨e1, u1, u2⟩ := ask_ok (h := h) ho
      have HA : Hid (allB (L.take (j + 1)) = true ∧ sumU h (L.take (j + 1)) = sumU h (L.take j) + upA h (L.getD j p0) ∧ maxU h (L.take (j + 1)) = max (maxU h (L.take j)) (upA h (L.getD j p0))) := by
        rw [take_snoc hjl, allB_snoc, sumU_snoc, maxU_snoc, ha, ho]
        exact ⟨rfl, rfl, rfl⟩
      have HT : Hid ((L.take j).length ≤ 1000) := by show _ ≤ _; rw [List.length_take]; omega
      obtain ⟨⟨s0, s1⟩, ⟨m0, m1⟩, _⟩ := HU.out
      have ht := HT.out
      obtain rfl : r = (upA h (L.getD j p0), 0) := HE.out.symm.trans e1
      clear hd hi ha ho e1 hnth hoX HE
      have s2 : sumU h (L.take j) ≤ 1048576000 := by omega
      clear s1 ht
      generalize upA h (L.getD j p0) = u at *
      generalize sumU h (L.take j) = s at *
      generalize maxU h (L.take j) = m at *
      have HF : Hid (∀ W', N1 W' (w.heap.size + 1) 3 (s + u) → W' = W' ) := fun _ _ => rfl
      have hw : IntKind.i64.wrap (s + u) = s + u := by rw [IntKind.wrap_i64]; omega
      have HWR := Lib.hid hw
      have HN : Hid (∀ W', W' = ((Wb.setCell ⟨w.heap.size + 1, 0, none⟩ (.int .i64 (s + u))).setCell ⟨w.heap.size + 1 + 1, 0, none⟩ (.int .i64 (max m u))).drew → KeepsFrom W2.heap.size Wb W' ∧ Two2 cb g Wb W' ∧ LdI w (w.heap.size + 1) h L (j + 1) W') := by
        intro W' e
        subst e
        have z := HZ.out
        have lw := L2.out.s.lt
        have lm := L2.out.m.lt
        refine ⟨⟨by simp [World.drew], fun i o hi ho _ => ?_⟩, ⟨?_, ?_⟩, HA.out.1, ?_⟩
        · show ((Wb.setCell _ _).setCell _ _).heap[i]? = _
          rw [Below.heap_setCell _ _ _ _ (by show i ≠ w.heap.size + 1 + 1; omega), Below.heap_setCell _ _ _ _ (by show i ≠ w.heap.size + 1; omega)]
          exact ho
        · show ((Wb.setCell _ _).setCell _ _).heap[cb]? = _
          rw [Below.heap_setCell _ _ _ _ (by show cb ≠ w.heap.size + 1 + 1; omega), Below.heap_setCell _ _ _ _ (by show cb ≠ w.heap.size + 1; omega)]
        · show ((Wb.setCell _ _).setCell _ _).heap[g]? = _
          rw [Below.heap_setCell _ _ _ _ (by show g ≠ w.heap.size + 1 + 1; omega), Below.heap_setCell _ _ _ _ (by show g ≠ w.heap.size + 1; omega)]
        · rw [HA.out.2.1, HA.out.2.2]
          have := HD.out.set (by omega) (s + u) (max m u)
          exact ⟨⟨this.below.os, this.below.tape, this.below.output, this.below.size, this.below.block⟩, this.s, this.m, this.e⟩
      clear HF hw C1 C2 HP HW H0 L2 P2 HZ LT HL HD HU HA HT hj hjl hoI hbz hk
      gi_wp2
      gi_region
      all_goals gi_wp2
      all_goals exact HN.out _ (by rw [HWR.out])
    · have e1 := ask_bad (h := h) ho
      obtain rfl : r = (0, 1) := HE.out.symm.trans e1
      have HX : Hid (allB L = false) := allB_bad hjl ho
      clear hd hi ha ho e1 hnth hoX HE
      generalize sumU h (L.take j) = s at *
      generalize maxU h (L.take j) = m at *
      gi_wp2
      have z := HZ.out
      have lw := L2.out.s.lt
      refine ⟨⟨by simp, fun i o hi ho _ => ?_⟩, rfl, HX.out, HD.out.set3 (by omega) 0 0 1⟩
      rw [Below.heap_setCell _ _ _ _ (by show i ≠ w.heap.size + 1 + 1 + 1; omega), Below.heap_setCell _ _ _ _ (by show i ≠ w.heap.size + 1 + 1; omega), Below.heap_setCell _ _ _ _ (by show i ≠ w.heap.size + 1; omega)]
      exact ho
  case done =>
    intro D W5 hD hi hdef
    obtain ⟨ha, hd⟩ := hi
    have et : L.take n = L := List.take_of_length_le (by rw [HL.out]; exact Nat.le_refl _)
    rw [et] at ha hd
    have c1 := hd.s.cell
    have c2 := hd.m.cell
    have c3 := hd.e.cell
    have f1 := hd.s.thaw
    have f2 := hd.m.thaw
    have f3 := hd.e.thaw
    have HD := Lib.hid hd
    have er : loadR h L = (sumU h L, maxU h L, 0) := if_pos ha
    obtain ⟨s, hs⟩ : ∃ s, sumU h L = s := ⟨_, rfl⟩
    obtain ⟨m, hm⟩ : ∃ m, maxU h L = m := ⟨_, rfl⟩
    rw [hs] at c1 er
    rw [hm] at c2 er
    rw [hs, hm] at HD
    obtain rfl : R = (s, m, 0) := HRR.out.symm.trans er
    clear hd ha et er hnth hoX hoI HRR hs hm
    go_wp2_with fail
    go_region
    go_wp2_with fail
    have z := HZ.out
    have hd6 : Ld w (((W5.setCell ⟨w.heap.size + 1, 0, none⟩ (.int .i64 s)).setCell ⟨w.heap.size + 1 + 1, 0, none⟩ (.int .i64 m)).setCell ⟨w.heap.size + 1 + 1 + 1, 0, none⟩ (.int .i64 0)).drew (w.heap.size + 1) s m 0 := by
      have := HD.out.set3 (by omega) s m 0
      exact ⟨⟨this.below.os, this.below.tape, this.below.output, this.below.size, this.below.block⟩, this.s, this.m, this.e⟩
    have hD6 : ((((W5.setCell ⟨w.heap.size + 1, 0, none⟩ (.int .i64 s)).setCell ⟨w.heap.size + 1 + 1, 0, none⟩ (.int .i64 m)).setCell ⟨w.heap.size + 1 + 1 + 1, 0, none⟩ (.int .i64 0)).drew).heap[D]? = some (.deferred (some [])) := by
      show (((W5.setCell _ _).setCell _ _).setCell _ _).heap[D]? = _
      rw [Below.heap_setCell _ _ _ _ (by show D ≠ w.heap.size + 1 + 1 + 1; omega), Below.heap_setCell _ _ _ _ (by show D ≠ w.heap.size + 1 + 1; omega), Below.heap_setCell _ _ _ _ (by show D ≠ w.heap.size + 1; omega)]
      exact hdef
    generalize (((W5.setCell ⟨w.heap.size + 1, 0, none⟩ (.int .i64 s)).setCell ⟨w.heap.size + 1 + 1, 0, none⟩ (.int .i64 m)).setCell ⟨w.heap.size + 1 + 1 + 1, 0, none⟩ (.int .i64 0)).drew = W6 at *
    have hsz := L2.out.below.size
    have k : ∀ b, b ≠ D → (W6.putObj D (.deferred none)).heap[b]? = W6.heap[b]? := fun b hb => World.putObj_heap_other hb
    have g1 := (hd6.s.kept (k _ (by omega))).cell
    have g2 := (hd6.m.kept (k _ (by omega))).cell
    have g3 := (hd6.e.kept (k _ (by omega))).cell
    refine leave_one hD6 ⟨.tuple #[.int .i64 s, .int .i64 m, .int .i64 0], ?_, rfl, hd6.below.grown (grownBy_putObj' W6 D _) hd6.below.size (fun k e => by cases e; omega)⟩
    simp [results, Try.f10, go_sem, g1, g2, g3]
  case stop =>
    rintro D c' j W5 hD hj ⟨rfl, hx, hd⟩ hdef
    have er : loadR h L = (0, 0, 1) := if_neg (by rw [hx]; simp)
    obtain rfl : R = (0, 0, 1) := HRR.out.symm.trans er
    have HD := Lib.hid hd
    have c1 := hd.s.cell
    have c2 := hd.m.cell
    have c3 := hd.e.cell
    clear hd hx er hnth hoX hoI HRR
    go_wp2_with fail
    have z := HZ.out
    have hd6 : Ld w W5 (w.heap.size + 1) 0 0 1 := HD.out
    have hD6 : (W5).heap[D]? = some (.deferred (some [])) := hdef
    have hsz := L2.out.below.size
    have k : ∀ b, b ≠ D → (W5.putObj D (.deferred none)).heap[b]? = W5.heap[b]? := fun b hb => World.putObj_heap_other hb
    have g1 := (hd6.s.kept (k _ (by omega))).cell
    have g2 := (hd6.m.kept (k _ (by omega))).cell
    have g3 := (hd6.e.kept (k _ (by omega))).cell
    refine leave_one hD6 ⟨.tuple #[.int .i64 0, .int .i64 0, .int .i64 1], ?_, rfl, hd6.below.grown (grownBy_putObj' W5 D _) hd6.below.size (fun k e => by cases e; omega)⟩
    simp [results, Try.f10, go_sem, g1, g2, g3]
end Go.Proofs.Ytfjepkakimhbbaa
