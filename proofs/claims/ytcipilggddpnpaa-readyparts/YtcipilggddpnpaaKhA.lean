/-
  Heap[api.Key]: what tells and compare answer; behind them the world has grown by blocks of their own alone.
-/
import Derived.Test.YtcipilggddpnpaaHpB
import Derived.StillTailTactics
namespace Go.Proofs.Ytcipilggddpnpaa.K
open Go.RowKit Go.Sort Go.Shelf
set_option linter.unusedVariables false
set_option linter.unusedSimpArgs false

abbrev Ky := Int × Int
/-- A key as a value. -/
abbrev kv (k : Ky) : Value := .agg #[.int .i64 k.1, .int .i64 k.2]

/-- WHAT IS ASKED OF less: function g, bound to cb, answers lt wherever all but the blocks of S is as in w0, and lays blocks of its own at most. -/
structure LessIs (g : Nat) (cb : Array Value) (lt : Ky → Ky → Bool) (w0 : World) (S : Nat → Prop) : Prop where
  enters : ∀ args w, (callFunc g args).run Try.prog w = .ok (.enter g args) w
  says : ∀ x y W, Kept S w0 W → Calls Try.prog g (#[kv x, kv y] ++ cb) W fun e w' => e = .returned (.bool (lt x y)) ∧ Grew W w'

theorem tells_idle (p : Addr) (w : World) :
    CallsD Try.prog 114 #[.pointer (some p)] .returning w fun e u' w' => e = .returned (.tuple #[]) ∧ u' = .returning ∧ w' = w := by
  refine callsD_of_wpS Try.func114 rfl fun c₀ cs hu => ?_
  apply wpS_seq
  apply wpS_region
  simp [wpOpsS, go_sem, recoverD, hu, Try.ntmps114, Exit.thenS]
  refine wpS_cond (t := false) (by simp [Act.eval, Array.replicate]) ?_
  simp only [Bool.false_eq_true, if_false]
  refine wpS_of_wp (wp_skip ?_)
  cases c₀
  simp_all [bodyPostS, results, Try.results114]

set_option maxHeartbeats 1000000 in
set_option maxRecDepth 20000 in
theorem tells_any (g : Nat) (cb : Array Value) (lt : Ky → Ky → Bool) (w0 : World) (S : Nat → Prop) (hl : LessIs g cb lt w0 S) (hb : Nat) (x y : Ky) (w : World) (hlt : hb < w.heap.size) (hc : w.cell? ⟨hb, 0, none⟩ = some (.func (.func g) #[] cb)) (hk : Kept S w0 w) :
    Calls Try.prog 97 #[.pointer (some ⟨hb, 0, none⟩), kv x, kv y] w fun e w' => e = .returned (.bool (lt x y)) ∧ Grew w w' := by
  obtain ⟨x1, x2⟩ := x
  obtain ⟨y1, y2⟩ := y
  have hmf : ∀ (fn : Fn) (first cap : Array Value) (w : World), (Instr.makeFunc fn first cap).run Try.prog w = .ok (.func fn first cap) w := fun _ _ _ _ => rfl
  have eg := hl.enters
  obtain ⟨W, hW⟩ : ∃ W, ((w.alloc (.cells #[.int .i64 x1, .int .i64 x2] 37)).alloc (.cells #[.int .i64 y1, .int .i64 y2] 37)).alloc (.cells #[.bool false] 4) = W := ⟨_, rfl⟩
  have hG : Grew w W := by rw [← hW]; exact (((Grew.refl w).alloc _).alloc _).alloc _
  have hsz : W.heap.size = w.heap.size + 3 := by rw [← hW]; simp
  have hs : Hid (Calls Try.prog g (#[.agg #[.int .i64 x1, .int .i64 x2], .agg #[.int .i64 y1, .int .i64 y2]] ++ cb) W.drew fun e w' => e = .returned (.bool (lt (x1, x2) (y1, y2))) ∧ Grew W.drew w') := hl.says (x1, x2) (y1, y2) W.drew (hk.trans (hG.kept S)).drew
  have c0 : W.cell? ⟨hb, 0, none⟩ = some (.func (.func g) #[] cb) := by rw [hG.cell hlt]; exact hc
  have c1 : W.cell? ⟨w.heap.size, 0, none⟩ = some (.int .i64 x1) := by rw [← hW]; simp [go_sem]
  have c2 : W.cell? ⟨w.heap.size, 1, none⟩ = some (.int .i64 x2) := by rw [← hW]; simp [go_sem]
  have c3 : W.cell? ⟨w.heap.size + 1, 0, none⟩ = some (.int .i64 y1) := by rw [← hW]; simp [go_sem]
  have c4 : W.cell? ⟨w.heap.size + 1, 1, none⟩ = some (.int .i64 y2) := by rw [← hW]; simp [go_sem]
  have c5 : W.cell? ⟨w.heap.size + 1 + 1, 0, none⟩ = some (.bool false) := by rw [← hW]; simp [go_sem]
  have c6 : W.frozen? ⟨w.heap.size + 1 + 1, 0, none⟩ = false := by rw [← hW]; simp [go_sem]
  have HG := Lib.hid hG
  clear hl hc hG hk
  generalize lt (x1, x2) (y1, y2) = r at *
  go_enter_defers Try.func97, Try.ntmps97
  go_wp2_with fail
  clear hW
  go_still_tail 6, (by kernel_rfl)
  change wpList _ _ _ _ _ W.drew
  go_wp2_with (go_at_fn g; refine hs.out.mono ?_; rintro e w' ⟨rfl, hg⟩; have hbc : w'.cell? ⟨w.heap.size + 1 + 1, 0, none⟩ = some (.bool false) := (by rw [hg.cell (by show w.heap.size + 1 + 1 < W.heap.size; omega)]; exact c5); have hbf : w'.frozen? ⟨w.heap.size + 1 + 1, 0, none⟩ = false := (by rw [hg.frozen (by show w.heap.size + 1 + 1 < W.heap.size; omega)]; exact c6))
  refine leaves_cons (f := 114) (args := #[.pointer (some ⟨w.heap.size + 1 + 1, 0, none⟩)]) (by simp) (by simp [go_sem]) ?_
  refine (tells_idle ⟨w.heap.size + 1 + 1, 0, none⟩ _).mono ?_
  rintro e u' w'' ⟨rfl, rfl, rfl⟩
  have hG : Grew w (w'.setCell ⟨w.heap.size + 1 + 1, 0, none⟩ (.bool r)) := (HG.out.drew.trans hg).setCell (by show w.heap.size ≤ w.heap.size + 1 + 1; omega) _
  simp [Leaves, settle, results, Try.results97, go_sem, hbc, hG]

/-- An entry: a number, and its key. -/
abbrev Ent := Int × Ky

/-- What compare answers. -/
def cmpE (lt : Ky → Ky → Bool) (a b : Ent) : Int := if lt a.2 b.2 then -1 else if lt b.2 a.2 then 1 else cmpZ a.1 b.1

set_option maxHeartbeats 1000000 in
theorem compare_any (g : Nat) (cb : Array Value) (lt : Ky → Ky → Bool) (w0 : World) (S : Nat → Prop) (hl : LessIs g cb lt w0 S) (hb : Nat) (a b : Ent) (w : World) (hlt : hb < w.heap.size) (hc : w.cell? ⟨hb, 0, none⟩ = some (.func (.func g) #[] cb)) (hk : Kept S w0 w) :
    Calls Try.prog 76 #[.pointer (some ⟨hb, 0, none⟩), .agg #[.int .i64 a.1, .int .i64 a.2.1, .int .i64 a.2.2], .agg #[.int .i64 b.1, .int .i64 b.2.1, .int .i64 b.2.2]] w fun e w' => e = .returned (.int .i64 (cmpE lt a b)) ∧ Grew w w' := by
  obtain ⟨i, x1, x2⟩ := a
  obtain ⟨j, y1, y2⟩ := b
  obtain ⟨W, hW⟩ : ∃ W, (w.alloc (.cells #[.int .i64 i, .int .i64 x1, .int .i64 x2] 110)).alloc (.cells #[.int .i64 j, .int .i64 y1, .int .i64 y2] 110) = W := ⟨_, rfl⟩
  have hG : Grew w W := by rw [← hW]; exact ((Grew.refl w).alloc _).alloc _
  have hsz : W.heap.size = w.heap.size + 2 := by rw [← hW]; simp
  have C1 : ∀ W', Grew W W' → Hid (Calls Try.prog 97 #[.pointer (some ⟨hb, 0, none⟩), .agg #[.int .i64 x1, .int .i64 x2], .agg #[.int .i64 y1, .int .i64 y2]] W' fun e w' => e = .returned (.bool (lt (x1, x2) (y1, y2))) ∧ Grew W' w') := fun W' h =>
    tells_any g cb lt w0 S hl hb (x1, x2) (y1, y2) W' (by have := h.size; omega) (by rw [h.cell (by show hb < W.heap.size; omega), hG.cell hlt]; exact hc) (hk.trans ((hG.trans h).kept S))
  have C2 : ∀ W', Grew W W' → Hid (Calls Try.prog 97 #[.pointer (some ⟨hb, 0, none⟩), .agg #[.int .i64 y1, .int .i64 y2], .agg #[.int .i64 x1, .int .i64 x2]] W' fun e w' => e = .returned (.bool (lt (y1, y2) (x1, x2))) ∧ Grew W' w') := fun W' h =>
    tells_any g cb lt w0 S hl hb (y1, y2) (x1, x2) W' (by have := h.size; omega) (by rw [h.cell (by show hb < W.heap.size; omega), hG.cell hlt]; exact hc) (hk.trans ((hG.trans h).kept S))
  have P : ∀ W', Grew W W' → W'.cell? ⟨w.heap.size, 0, none⟩ = some (.int .i64 i) ∧ W'.cell? ⟨w.heap.size, 1, none⟩ = some (.int .i64 x1) ∧ W'.cell? ⟨w.heap.size, 2, none⟩ = some (.int .i64 x2) ∧ W'.cell? ⟨w.heap.size + 1, 0, none⟩ = some (.int .i64 j) ∧ W'.cell? ⟨w.heap.size + 1, 1, none⟩ = some (.int .i64 y1) ∧ W'.cell? ⟨w.heap.size + 1, 2, none⟩ = some (.int .i64 y2) := fun W' h => by
    refine ⟨?_, ?_, ?_, ?_, ?_, ?_⟩ <;> (rw [h.cell (by simp only []; omega), ← hW]; simp [go_sem])
  clear hl hc hk
  obtain ⟨p1, p2, p3, p4, p5, p6⟩ := P W (Grew.refl W)
  have PP : Hid _ := P
  have hGG : Hid (Grew w W) := hG
  clear P hG
  by_cases h1 : lt (x1, x2) (y1, y2) = true
  · have e1 : cmpE lt (i, x1, x2) (j, y1, y2) = -1 := if_pos h1
    rw [e1]; clear e1
    go_enter Try.func76, Try.ntmps76
    go_wp2_with (go_at_call 97; (with_reducible refine (C1 _ (Grew.refl _)).out.mono ?_); rintro e w1 ⟨rfl, g1⟩)
    go_ret
    exact ⟨rfl, hGG.out.trans g1⟩
  have h1' : lt (x1, x2) (y1, y2) = false := by simpa using h1
  by_cases h2 : lt (y1, y2) (x1, x2) = true
  · have e1 : cmpE lt (i, x1, x2) (j, y1, y2) = 1 := by unfold cmpE; rw [if_neg h1, if_pos h2]
    rw [e1]; clear e1 h1
    go_enter Try.func76, Try.ntmps76
    go_wp2_with (first | (go_at_call 97; (with_reducible refine (C1 _ (Grew.refl _)).out.mono ?_); rintro e w1 ⟨rfl, g1⟩; obtain ⟨q1, q2, q3, q4, q5, q6⟩ := PP.out w1 g1) | (go_at_call 97; (with_reducible refine (C2 _ g1).out.mono ?_); rintro e w2 ⟨rfl, g2⟩))
    go_ret
    exact ⟨rfl, (hGG.out.trans g1).trans g2⟩
  · have h2' : lt (y1, y2) (x1, x2) = false := by simpa using h2
    have e1 : cmpE lt (i, x1, x2) (j, y1, y2) = cmpZ i j := by unfold cmpE; rw [if_neg h1, if_neg h2]
    rw [e1]; clear e1 h1 h2
    have C3 : ∀ W', Hid (Calls Try.prog 66 #[.int .i64 i, .int .i64 j] W' fun e w' => e = .returned (.int .i64 (cmpZ i j)) ∧ W' = w') := fun W' => cmp_int i j W'
    generalize cmpZ i j = z at *
    go_enter Try.func76, Try.ntmps76
    go_wp2_with (first | (go_at_call 97; (with_reducible refine (C1 _ (Grew.refl _)).out.mono ?_); rintro e w1 ⟨rfl, g1⟩; obtain ⟨q1, q2, q3, q4, q5, q6⟩ := PP.out w1 g1) | (go_at_call 97; (with_reducible refine (C2 _ g1).out.mono ?_); rintro e w2 ⟨rfl, g2⟩; obtain ⟨r1, r2, r3, r4, r5, r6⟩ := PP.out w2 (g1.trans g2)) | (go_at_call 66; (with_reducible refine (C3 _).out.mono ?_); rintro e w3 ⟨rfl, rfl⟩))
    go_ret
    exact ⟨rfl, (hGG.out.trans g1).trans g2⟩

/-- The order: a is ahead of b. -/
def ahd (lt : Ky → Ky → Bool) (a b : Ent) : Bool := decide (cmpE lt a b < 0)

theorem ahd_eq (lt : Ky → Ky → Bool) (a b : Ent) : ahd lt a b = (lt a.2 b.2 || (!lt b.2 a.2 && decide (a.1 < b.1))) := by
  unfold ahd cmpE cmpZ
  cases lt a.2 b.2 <;> cases lt b.2 a.2 <;> simp
  by_cases h : a.1 < b.1
  · simp [h]
  · by_cases h2 : b.1 < a.1 <;> simp [h, h2]
end Go.Proofs.Ytcipilggddpnpaa.K
