/-
  Rows of params that a function makes for itself: append; slices.Clone at params; admit.Change.
-/
import Derived.Test.YtfjepkakimhbbaaAf
namespace Go.Proofs.Ytfjepkakimhbbaa
open Go.RowKit Go.Sort Go.Shelf Go.Maps
set_option linter.unusedVariables false
set_option linter.unusedSimpArgs false

def flatP : List Pa → List Value
  | [] => []
  | p :: r => .int .i64 p.1 :: .int .i64 p.2.1 :: .int .i64 p.2.2 :: flatP r
theorem len_flatP : ∀ L, (flatP L).length = L.length * 3
  | [] => rfl
  | p :: r => by simp only [flatP, List.length_cons, len_flatP r]; omega
theorem flatP_append (L M : List Pa) : flatP (L ++ M) = flatP L ++ flatP M := by
  induction L with
  | nil => rfl
  | cons p r ih => simp [flatP, ih]
theorem flatP_get : ∀ (L : List Pa) (i : Nat), i < L.length → (flatP L)[i * 3]? = some (.int .i64 (L.getD i p0).1) ∧ (flatP L)[i * 3 + 1]? = some (.int .i64 (L.getD i p0).2.1) ∧ (flatP L)[i * 3 + 2]? = some (.int .i64 (L.getD i p0).2.2)
  | [], i, h => by simp at h
  | p :: r, 0, _ => ⟨rfl, rfl, rfl⟩
  | p :: r, i + 1, h => by
    have := flatP_get r i (by simpa using h)
    have e : (i + 1) * 3 = i * 3 + 3 := by omega
    rw [e]
    simpa [flatP] using this
theorem flatP_one (L : List Pa) : ∀ u ∈ flatP L, u.oneCell' = true := by
  induction L with
  | nil => intro u h; cases h
  | cons p r ih =>
    intro u h
    simp only [flatP, List.mem_cons] at h
    rcases h with rfl | rfl | rfl | h
    · rfl
    · rfl
    · rfl
    · exact ih u h
/-- Cells that lie as a list's. -/
theorem PAt.flat {w : World} {a : Option Addr} {L : List Pa} (h : PAt w a L) (hne : L.length ≠ 0) : ∃ g o, a = some ⟨g, o, none⟩ ∧ g < w.heap.size ∧ (∀ j u, (flatP L)[j]? = some u → w.cell? ((⟨g, o, none⟩ : Addr).add j) = some u) ∧ ∀ p ∈ L, Fit p := by
  rcases h with h | ⟨g, o, rfl, hg, hc⟩
  · exact absurd h hne
  · refine ⟨g, o, rfl, hg, fun j u hj => ?_, fun p hp => ?_⟩
    · have ea : (⟨g, o, none⟩ : Addr).add j = ⟨g, o + j, none⟩ := by
        unfold Addr.add
        split
        · subst_vars; rfl
        · rfl
      rw [ea]
      have hl : j < L.length * 3 := by rw [← len_flatP]; exact (List.getElem?_eq_some_iff.1 hj).1
      obtain ⟨h1, h2, h3⟩ := flatP_get L (j / 3) (by omega)
      obtain ⟨⟨c1, c2, c3⟩, _⟩ := hc (j / 3) (by omega)
      have hm : j % 3 = 0 ∨ j % 3 = 1 ∨ j % 3 = 2 := by omega
      rcases hm with e | e | e
      · rw [show j / 3 * 3 = j by omega] at h1 c1
        rw [hj] at h1
        rw [c1]; exact h1.symm
      · rw [show j / 3 * 3 + 1 = j by omega] at h2
        rw [hj] at h2
        rw [Nat.add_assoc, show j / 3 * 3 + 1 = j by omega] at c2
        rw [c2]; exact h2.symm
      · rw [show j / 3 * 3 + 2 = j by omega] at h3
        rw [hj] at h3
        rw [Nat.add_assoc, show j / 3 * 3 + 2 = j by omega] at c3
        rw [c3]; exact h3.symm
    · obtain ⟨i, hi, e⟩ := List.getElem_of_mem hp
      have := (hc i hi).2
      rw [List.getD_eq_getElem?_getD, List.getElem?_eq_getElem hi] at this
      rw [← e]
      exact this

/-- A row of params of the function's own. -/
def OwnP (B : Nat) (W : World) (v : Value) (L : List Pa) : Prop := W.ownsRow B 40 3 v L.length (flatP L) ∧ ∀ p ∈ L, Fit p
theorem OwnP.nil (B : Nat) (W : World) : OwnP B W (.slice none 0 0) [] := ⟨World.ownsRow_nil _ _ _ _, fun p hp => by cases hp⟩
theorem OwnP.form {B : Nat} {W : World} {v : Value} {L : List Pa} (h : OwnP B W v L) : ∃ a cap, v = .slice a L.length cap ∧ (a = none → L.length = 0 ∧ cap = 0) ∧ PAt W a L := by
  rcases h.1.2 with ⟨e, h0⟩ | ⟨g, cap, cur, rfl, hB, hg, h2, h3, h4, h5⟩
  · refine ⟨none, 0, by rw [e, h0], fun _ => ⟨h0, rfl⟩, .inl h0⟩
  · refine ⟨_, cap, rfl, (fun e => by cases e), .inr ⟨g, 0, rfl, (Array.getElem?_eq_some_iff.1 hg).1, fun i hi => ?_⟩⟩
    obtain ⟨f1, f2, f3⟩ := flatP_get L i hi
    have hc : ∀ j u, (flatP L)[j]? = some u → W.cell? ⟨g, j, none⟩ = some u := fun j u hj => by
      rw [← h5, List.getElem?_take] at hj
      split at hj
      · unfold World.cell?
        rw [hg]
        simpa using hj
      · cases hj
    rw [Nat.zero_add]
    refine ⟨⟨hc _ _ f1, hc _ _ f2, hc _ _ f3⟩, h.2 _ ?_⟩
    rw [List.getD_eq_getElem?_getD, List.getElem?_eq_getElem hi]
    exact List.getElem_mem _
theorem OwnP.kept {B : Nat} {W W' : World} {v : Value} {L : List Pa} (h : OwnP B W v L) (k : Below W.heap.size W W') : OwnP B W' v L := by
  refine ⟨h.1.kept (grown_of k) ?_, h.2⟩
  cases e : v.ownBlock with
  | none => exact .inl rfl
  | some g => exact .inr (by simp)
theorem OwnP.lower {B B' : Nat} {W : World} {v : Value} {L : List Pa} (h : OwnP B W v L) (hB : B' ≤ B) : OwnP B' W v L := by
  refine ⟨⟨h.1.1, ?_⟩, h.2⟩
  rcases h.1.2 with x | ⟨g, cap, cur, e, hg, r⟩
  · exact .inl x
  · exact .inr ⟨g, cap, cur, e, Nat.le_trans hB hg, r⟩
theorem OwnP.blk {B : Nat} {W : World} {v : Value} {L : List Pa} (h : OwnP B W v L) : ∀ k, v.ownBlock = some k → B ≤ k := fun k e => (h.1.lt k e).1

theorem infoP : ∃ i0, Try.prog.info? 40 = some i0 ∧ i0.zero = some (.agg #[.int .i64 0, .int .i64 0, .int .i64 0]) ∧ i0.size = 3 ∧ i0.bytes = 24 := info_parts (P := Try.prog) (e := 40) (z := .agg #[.int .i64 0, .int .i64 0, .int .i64 0]) (size := 3) (bytes := 24) (by kernel_rfl)

/-- append, at such a row and whatever params. -/
theorem append_p {w : World} {ops : Array Oper} {rest : List Oper} {o : Oper} {a : Act} {Q : Exit → Act → World → Prop} (hgd : o.guard = none) (s x : Operand)
    (ho : o.op = .call { callee := .builtin .append, args := #[s, x], argTypes := #[24, 24] })
    (B : Nat) (v : Value) (L M : List Pa) (hs : a.eval s = v) (hown : OwnP B w v L) (b : Option Addr) (n c : Nat) (hx : a.eval x = .slice b n c) (hn : M.length = n) (hM : PAt w b M) (hz : b = none → n = 0 ∧ c = 0) (hlen : L.length + n ≤ 1000) (hbase : B ≤ w.heap.size)
    (h : ∀ v' w', OwnP B w' v' (L ++ M) → w.grownBy w' v.ownBlock → wpList Try.prog ops Q rest (a.put o.dst v') w') : wpList Try.prog ops Q (o :: rest) a w := by
  obtain ⟨i0, hi, hz0, hz1, hz2⟩ := infoP
  subst hn
  by_cases hne : M.length = 0
  · obtain rfl : M = [] := List.eq_nil_of_length_eq_zero hne
    have h' := h v w (by rw [List.append_nil]; exact hown)
    cases b with
    | none =>
      obtain ⟨_, rfl⟩ := hz rfl
      exact wpList_append_own_none hgd s x 24 ho B 40 i0 3 Try.underlying24 hi v L.length (flatP L) hs hown.1 hx (h' ⟨rfl, rfl, rfl, Nat.le_refl _, fun _ _ _ => rfl⟩)
    | some y =>
      refine wpList_append_own w hgd s x 24 ho B 40 i0 (.agg #[.int .i64 0, .int .i64 0, .int .i64 0]) 3 24 Try.underlying24 hi hz0 hz1 hz2 rfl (by decide) v L.length (flatP L) hs hown.1 y 0 c [] hx rfl (fun j u hj => by cases hj) (fun u hu => by cases hu) ?_ ?_ hbase (fun v' w' h2 h3 h4 => h v' w' ?_ h3)
      · simp only [maxLen]; simp only [List.length_nil] at hlen; omega
      · simp only [List.length_nil] at hlen; omega
      · rw [List.append_nil] at h2 ⊢
        exact ⟨h2, hown.2⟩
  · obtain ⟨g, o', rfl, hg, hc, hf⟩ := hM.flat hne
    refine wpList_append_own w hgd s x 24 ho B 40 i0 (.agg #[.int .i64 0, .int .i64 0, .int .i64 0]) 3 24 Try.underlying24 hi hz0 hz1 hz2 rfl (by decide) v L.length (flatP L) hs hown.1 ⟨g, o', none⟩ M.length c (flatP M) hx (len_flatP M) hc (flatP_one M) ?_ ?_ hbase (fun v' w' h2 h3 h4 => h v' w' ?_ h3)
    · simp only [maxLen]; omega
    · omega
    · refine ⟨by rw [flatP_append, List.length_append]; exact h2, fun p hp => ?_⟩
      rcases List.mem_append.1 hp with hp | hp
      · exact hown.2 p hp
      · exact hf p hp

set_option maxHeartbeats 2000000 in
set_option maxRecDepth 100000 in
theorem clone_any (a : Option Addr) (cap : Nat) (L : List Pa) (hl : L.length ≤ 900) (hne : L.length ≠ 0) (w : World) (hp : PAt w a L) :
    Calls Try.prog 32 #[.slice a L.length cap] w fun e w' => ∃ v, e = .returned v ∧ OwnP w.heap.size w' v L ∧ Below w.heap.size w w' := by
  have mixed : Try.prog.follows .mixedOrders = true := by kernel_rfl
  have q1 : ∀ (w : World) (a : Option Addr) (n c n' c' : Nat), (binOp .eql 24 (.slice a n c) (.slice none n' c')).run Try.prog w = .ok (.bool a.isNone) w := fun w a n c n' c' => Lib.run_eql_slice_nil w _ _ a n c n' c' Try.underlying24
  obtain ⟨g, o, rfl, hg, _⟩ := hp.flat hne
  have A := Lib.hid hp
  obtain ⟨n, hn⟩ : ∃ n, L.length = n := ⟨_, rfl⟩
  have HN := Lib.hid hn
  rw [hn] at hl ⊢
  clear hp hn hne
  go_enter Try.func32, Try.ntmps32
  go_wp2_with (at_builtin; refine append_p rfl _ _ rfl w.heap.size _ [] L rfl (show OwnP w.heap.size _ _ [] from ⟨World.ownsRow_made w #[] 0 (Nat.le_refl _) (Nat.zero_le _) rfl, fun p hp => by cases hp⟩) (some ⟨g, o, none⟩) n cap rfl HN.out (A.out.next ((Below.refl _ _).alloc (Nat.le_refl _) _)) (fun e => by cases e) (by simp; omega) (by simp) ?_)
  intro v' w1 hown hgrow
  go_wp2
  go_ret
  refine ⟨v', rfl, hown, ((Below.refl w.heap.size w).alloc (Nat.le_refl _) _).grown hgrow (by simp) (fun k e => ?_)⟩
  simp [Value.ownBlock] at e
  omega

theorem flatP_set : ∀ (L : List Pa) (i : Nat) (p : Pa), flatP (L.set i p) = (((flatP L).set (i * 3) (.int .i64 p.1)).set (i * 3 + 1) (.int .i64 p.2.1)).set (i * 3 + 2) (.int .i64 p.2.2)
  | [], i, p => by simp [flatP]
  | q :: r, 0, p => rfl
  | q :: r, i + 1, p => by
    have := flatP_set r i p
    have e : (i + 1) * 3 = i * 3 + 3 := by omega
    simp only [List.set_cons_succ, flatP, e]
    rw [this]
    first | done | rfl
/-- One of such a row's own written anew. -/
theorem OwnP.set {B : Nat} {W : World} {v : Value} {L : List Pa} (h : OwnP B W v L) {i : Nat} (hi : i < L.length) (p : Pa) (hp : Fit p) :
    ∃ g cap, v = .slice (some ⟨g, 0, none⟩) L.length cap ∧ B ≤ g ∧ g < W.heap.size ∧ (∀ j, j < 3 → (∃ u, W.cell? ⟨g, i * 3 + j, none⟩ = some u) ∧ W.frozen? ⟨g, i * 3 + j, none⟩ = false) ∧
      OwnP B (((W.setCell ⟨g, i * 3, none⟩ (.int .i64 p.1)).setCell ⟨g, i * 3 + 1, none⟩ (.int .i64 p.2.1)).setCell ⟨g, i * 3 + 2, none⟩ (.int .i64 p.2.2)) v (L.set i p) := by
  rcases h.1.2 with ⟨e, h0⟩ | ⟨g, cap, cur, rfl, hB, hg, h2, h3, h4, h5⟩
  · omega
  · have hlen : i * 3 + 2 < cur.size := by omega
    refine ⟨g, cap, rfl, hB, (Array.getElem?_eq_some_iff.1 hg).1, fun j hj => ⟨⟨cur[i * 3 + j]'(by omega), ?_⟩, ?_⟩, ⟨by rw [len_flatP], .inr ⟨g, cap, ((cur.setIfInBounds (i * 3) (.int .i64 p.1)).setIfInBounds (i * 3 + 1) (.int .i64 p.2.1)).setIfInBounds (i * 3 + 2) (.int .i64 p.2.2), by rw [List.length_set], hB, ?_, by rw [List.length_set]; exact h2, h3, by simpa using h4, ?_⟩⟩, fun q hq => ?_⟩
    · unfold World.cell?
      rw [hg]
      exact Array.getElem?_eq_getElem (show i * 3 + j < cur.size by omega)
    · simp [World.frozen?, hg]
    · have s1 : ∀ (w : World) (c : Array Value) (j : Nat) (u : Value), w.heap[g]? = some (.cells c 40 (0, 0)) → (w.setCell ⟨g, j, none⟩ u).heap[g]? = some (.cells (c.setIfInBounds j u) 40 (0, 0)) := fun w c j u hc => by
        simp [World.setCell, Array.getElem?_modify, hc]
      exact s1 _ _ _ _ (s1 _ _ _ _ (s1 _ _ _ _ hg))
    · rw [List.length_set, Array.toList_setIfInBounds, Array.toList_setIfInBounds, Array.toList_setIfInBounds, List.take_set, List.take_set, List.take_set, h5, flatP_set]
    · rcases List.mem_or_eq_of_mem_set hq with hq | rfl
      · exact h.2 q hq
      · exact hp

/-- What Change answers. -/
def changeE (h : Bool) (c k i : Int) (p : Pa) (L : List Pa) : Int := if ruleE c k = 0 then (if i < 0 ∨ (L.length : Int) ≤ i then 14 else testE h c k (L.set i.toNat p)) else 1

set_option maxHeartbeats 2000000 in
theorem change_any (h : Bool) (c k i : Int) (p : Pa) (hf : Fit p) (a : Option Addr) (cap : Nat) (L : List Pa) (hl : L.length ≤ 900) (w : World) (hp : PAt w a L) :
    Calls Try.prog 22 #[ruV h c k, .int .i64 i, paV p, .slice a L.length cap] w fun e w' => e = .returned (.int .i64 (changeE h c k i p L)) ∧ Below w.heap.size w w' := by
  obtain ⟨x1, x2, x3⟩ := p
  show Calls Try.prog 22 #[.agg #[.bool h, .int .i64 c, .int .i64 k], .int .i64 i, .agg #[.int .i64 x1, .int .i64 x2, .int .i64 x3], .slice a L.length cap] w _
  obtain ⟨W0, hW0⟩ : ∃ W0, (w.alloc (.cells #[.bool h, .int .i64 c, .int .i64 k] 23)).alloc (.cells #[.int .i64 x1, .int .i64 x2, .int .i64 x3] 40) = W0 := ⟨_, rfl⟩
  have b0 : Below w.heap.size w W0 := by rw [← hW0]; exact ((Below.refl _ _).alloc (Nat.le_refl _) _).alloc (by simp) _
  have r0 : Box3 W0 w.heap.size 23 (.bool h) (.int .i64 c) (.int .i64 k) := by rw [← hW0]; exact (Box3.start _ _ _ _ _).next' ((Below.refl _ _).alloc (Nat.le_refl _) _)
  have q0 : Box3 W0 (w.heap.size + 1) 40 (.int .i64 x1) (.int .i64 x2) (.int .i64 x3) := by
    rw [← hW0]
    have := Box3.start (w.alloc (.cells #[.bool h, .int .i64 c, .int .i64 k] 23)) 40 (.int .i64 x1) (.int .i64 x2) (.int .i64 x3)
    simpa using this
  have HW := Lib.hid hW0
  have H0 := Lib.hid (And.intro b0 (And.intro r0 q0))
  have HP := Lib.hid hp
  have C1 := Lib.hid (fun W => acheck_any h c k W)
  obtain ⟨R, hR⟩ : ∃ R, changeE h c k i (x1, x2, x3) L = R := ⟨_, rfl⟩
  rw [hR]
  obtain ⟨n, hn⟩ : ∃ n, L.length = n := ⟨_, rfl⟩
  have HN := Lib.hid hn
  rw [hn] at hl ⊢
  clear hW0 b0 r0 q0 hp
  rcases ruleE_two c k with hk | hk
  · rw [hk] at C1
    by_cases hi0 : i < 0
    · obtain rfl : R = 14 := by rw [← hR]; unfold changeE; rw [if_pos hk, if_pos (Or.inl hi0)]
      have hi0' : decide (i < 0) = true := decide_eq_true hi0
      clear hR hn
      go_enter Try.func22, Try.ntmps22
      go_wp2_with fail
      rw [HW.out]
      refine (C1.out _).mono ?_
      rintro e w1 ⟨rfl, b1⟩
      go_wp2
      go_ret
      exact ⟨rfl, H0.out.1.trans (b1.mono H0.out.1.size)⟩
    have hi0' : decide (i < 0) = false := decide_eq_false hi0
    by_cases hi1 : (n : Int) ≤ i
    · obtain rfl : R = 14 := by rw [← hR]; unfold changeE; rw [if_pos hk, if_pos (Or.inr (by rw [hn]; exact hi1))]
      have hi1' : decide ((n : Int) ≤ i) = true := decide_eq_true hi1
      clear hR hn
      go_enter Try.func22, Try.ntmps22
      go_wp2_with fail
      rw [HW.out]
      refine (C1.out _).mono ?_
      rintro e w1 ⟨rfl, b1⟩
      go_wp2
      go_ret
      exact ⟨rfl, H0.out.1.trans (b1.mono H0.out.1.size)⟩
    obtain ⟨j, rfl⟩ := Int.eq_ofNat_of_zero_le (by omega : 0 ≤ i)
    have hj : j < L.length := by omega
    have hi1' : decide ((n : Int) ≤ (j : Int)) = false := decide_eq_false hi1
    have hjz : (j : Int) < (n : Int) := by omega
    have hT : testE h c k (L.set j (x1, x2, x3)) = R := by rw [← hR]; unfold changeE; rw [if_pos hk, if_neg (by omega), Int.toNat_natCast]
    have HT := Lib.hid hT
    clear hT
    have HJ := Lib.hid hj
    have CC : Hid (∀ W, Below w.heap.size w W → Calls Try.prog 32 #[.slice a n cap] W fun e w' => ∃ v, e = .returned v ∧ OwnP W.heap.size w' v L ∧ Below W.heap.size W w') := fun W hW => by
      have := clone_any a cap L (by rw [HN.out]; exact hl) (by omega) W (HP.out.next (hW))
      rwa [HN.out] at this
    have HF := Lib.hid hf
    clear hR hn hj hi0 hi1
    go_enter Try.func22, Try.ntmps22
    go_wp2_with fail
    rw [HW.out]
    refine (C1.out _).mono ?_
    rintro e w1 ⟨rfl, b1⟩
    have B1 : Hid (Below w.heap.size w w1) := H0.out.1.trans (b1.mono H0.out.1.size)
    have R1 := Lib.hid (H0.out.2.1.next' b1)
    have Q1 := Lib.hid (H0.out.2.2.next' b1)
    go_wp2_with fail
    refine (CC.out _ B1.out).mono ?_
    rintro e w2 ⟨v, rfl, hown, b2⟩
    have R2 := Lib.hid (R1.out.next' b2)
    have Q2 := Lib.hid (Q1.out.next' b2)
    have B2 : Hid (Below w.heap.size w w2) := B1.out.trans (b2.mono B1.out.size)
    have LT : Hid (w.heap.size ≤ w1.heap.size ∧ w.heap.size + 1 < w1.heap.size) := ⟨B1.out.size, Q1.out.lt⟩
    obtain ⟨g, cap2, rfl, hB, hg, hfz, hset⟩ := hown.set (i := j) HJ.out (x1, x2, x3) HF.out
    rw [HN.out]
    obtain ⟨⟨u0, y0⟩, z0⟩ := hfz 0 (by omega)
    obtain ⟨⟨u1, y1⟩, z1⟩ := hfz 1 (by omega)
    obtain ⟨⟨u2, y2⟩, z2⟩ := hfz 2 (by omega)
    rw [Nat.add_zero] at y0 z0
    have p3 := Q2.out.c0
    have p4 := Q2.out.c1
    have p5 := Q2.out.c2
    have HS := Lib.hid hset
    have HG : Hid (w1.heap.size ≤ g ∧ g < w2.heap.size) := ⟨hB, hg⟩
    clear hset hfz hown hB hg b1 b2
    go_upto_region 8 with (fail)
    obtain ⟨W3, hW3⟩ : ∃ W3, ((w2.setCell ⟨g, j * 3, none⟩ (.int .i64 x1)).setCell ⟨g, j * 3 + 1, none⟩ (.int .i64 x2)).setCell ⟨g, j * 3 + 2, none⟩ (.int .i64 x3) = W3 := ⟨_, rfl⟩
    rw [hW3]
    have b3 : Below w1.heap.size w2 W3 := by
      rw [← hW3]
      exact (((Below.refl _ _).setCell (p := ⟨g, j * 3, none⟩) HG.out.1 _).setCell (p := ⟨g, j * 3 + 1, none⟩) HG.out.1 _).setCell (p := ⟨g, j * 3 + 2, none⟩) HG.out.1 _
    have hown := HS.out
    rw [hW3] at hown
    have B3 : Hid (Below w.heap.size w W3) := B2.out.trans (b3.mono LT.out.1)
    have R3 := Lib.hid (R2.out.next b3 (by have := LT.out; omega))
    obtain ⟨a3, cap3, e3, _, hp3⟩ := hown.form
    have C4 : Hid (Calls Try.prog 14 #[.agg #[.bool h, .int .i64 c, .int .i64 k], .slice (some ⟨g, 0, none⟩) n cap2] W3 fun e w' => e = .returned (.int .i64 R) ∧ Below W3.heap.size W3 w') := by
      rw [← HT.out]
      have e4 := e3
      rw [List.length_set] at e4
      injection e4 with ea en ec
      subst ea ec
      have := atest_any h c k (some ⟨g, 0, none⟩) cap2 (L.set j (x1, x2, x3)) (by rw [List.length_set, HN.out]; omega) W3 hp3
      rwa [List.length_set, HN.out] at this
    have p0 := R3.out.c0
    have p1 := R3.out.c1
    have p2 := R3.out.c2
    clear hW3 hown e3 hp3 y0 y1 y2 z0 z1 z2 p3 p4 p5 HS b3
    go_wp2_with fail
    refine C4.out.mono ?_
    rintro e w4 ⟨rfl, b4⟩
    go_wp2
    go_ret
    exact ⟨rfl, B3.out.trans (b4.mono B3.out.size)⟩
  · rw [hk] at C1
    obtain rfl : R = 1 := by rw [← hR]; unfold changeE; rw [if_neg (by omega)]
    clear hR hn
    go_enter Try.func22, Try.ntmps22
    go_wp2_with fail
    rw [HW.out]
    refine (C1.out _).mono ?_
    rintro e w1 ⟨rfl, b1⟩
    go_wp2
    go_ret
    exact ⟨rfl, H0.out.1.trans (b1.mono H0.out.1.size)⟩
end Go.Proofs.Ytfjepkakimhbbaa
