/-
  TimersOnce: what it has in memory, and how what is armed and what the law marks hang together.
-/
import Derived.Test.YtpglkakbiaihdaaTx1
import Derived.Test.YtpglkakbiaihdaaIsRow
import Derived.Test.YtpglkakbiaihdaaHpT
namespace Go.Proofs.Ytpglkakbiaihdaa
open Go.RowKit Go.Shelf Go.Maps
set_option linter.unusedVariables false
set_option linter.unusedSimpArgs false

theorem made5 {w' : World} {sb n : Nat} (h : w'.ownsRow 0 4 1 (.slice (some ⟨sb, 0, none⟩) n n) n (madeCells (Value.bool false).cells (n * 1)).toList) : SeenAt w' sb n (fun _ => false) := by
  rcases h.2 with ⟨e, _⟩ | ⟨g, cap, cur, e, _, h1, h2, h3, h4, h5⟩
  · cases e
  · simp only [Value.slice.injEq, Option.some.injEq, Addr.mk.injEq, and_true, true_and] at e
    obtain ⟨rfl, rfl⟩ := e
    refine ⟨cur, h1, fun j hj => ?_⟩
    have e1 : (madeCells (Value.bool false).cells (n * 1)).toList = List.replicate (n * 1) (.bool false) := toList_madeCells_one _ _
    rw [e1] at h5
    have h6 : (cur.toList.take (n * 1))[j]? = some (.bool false) := by rw [h5, List.getElem?_replicate, if_pos (by omega)]
    rw [List.getElem?_take, if_pos (by omega)] at h6
    simpa using h6
theorem SeenAt.put {W : World} {sb n : Nat} {f : Nat → Bool} (h : SeenAt W sb n f) {j : Nat} (hj : j < n) (b : Bool) : SeenAt (W.setCell ⟨sb, j, none⟩ (.bool b)) sb n (fun k => if k = j then b else f k) := by
  obtain ⟨cur, h1, h2⟩ := h
  refine ⟨cur.setIfInBounds j (.bool b), by simp [World.setCell, Array.getElem?_modify, h1], fun k hk => ?_⟩
  have hsz : j < cur.size := (Array.getElem?_eq_some_iff.1 (h2 j hj)).1
  rw [Array.getElem?_setIfInBounds]
  by_cases e : j = k
  · subst e; simp [hsz]
  · rw [if_neg e, h2 k hk]
    show some (Value.bool (f k)) = some (Value.bool (if k = j then b else f k))
    rw [if_neg (fun x => e x.symm)]

/-- The timers, the law's row of bools, and all that was. -/
structure OnceM (w W : World) (tb : Nat) (q : QB) (now o : Int) (L : List Ent) (sb n : Nat) (fs : Nat → Bool) : Prop where
  ts : Ts w.heap.size W tb q 60 now o L
  seen : SeenAt W sb n fs
  off : ¬ q.own sb ∧ sb ≠ tb
  low : Below w.heap.size w W
  new : w.heap.size ≤ sb
theorem OnceM.lies {w W W' : World} {tb : Nat} {q : QB} {now o : Int} {L : List Ent} {sb n : Nat} {fs : Nat → Bool} (h : OnceM w W tb q now o L sb n fs) (b : Below W.heap.size W W') : OnceM w W' tb q now o L sb n fs :=
  ⟨h.ts.lies b, h.seen.kept (b.block sb h.seen.lt), h.off, h.low.trans (b.mono h.low.size), h.new⟩
theorem OnceM.put {w W : World} {tb : Nat} {q : QB} {now o : Int} {L : List Ent} {sb n : Nat} {fs : Nat → Bool} (h : OnceM w W tb q now o L sb n fs) {j : Nat} (hj : j < n) (b : Bool) : OnceM w (W.setCell ⟨sb, j, none⟩ (.bool b)) tb q now o L sb n (fun k => if k = j then b else fs k) :=
  ⟨h.ts.kept ((Kept.refl (fun k => k = sb) W).setCell (p := ⟨sb, j, none⟩) (.inl rfl) _) (fun b hb e => by
    subst e
    rcases hb with hb | hb
    · exact h.off.1 hb
    · exact h.off.2 hb), h.seen.put hj b, h.off, h.low.setCell h.new _, h.new⟩
theorem OnceM.arm {w W W' : World} {tb : Nat} {q q' : QB} {now o : Int} {L : List Ent} {sb n : Nat} {fs : Nat → Bool} {id at_ : Int} (h : OnceM w W tb q now o L sb n fs) (l : LeftQ w.heap.size W W' q q' (armL L (id, at_))) (hid : 0 ≤ id) (hat : timeE at_ = 0) (hx : Is64 id ∧ Is64 at_) : OnceM w W' tb q' now o (armL L (id, at_)) sb n fs := by
  have hlt := h.seen.lt
  refine ⟨h.ts.arm l hid hat hx, h.seen.kept (l.kept.block sb hlt (fun ht => h.off.1 (.inl ht))), ⟨fun ho => ?_, h.off.2⟩, h.low.trans (l.below h.ts.queue h.low.size), h.new⟩
  rcases l.owns sb ho with e | e
  · exact h.off.1 e
  · omega
theorem OnceM.due {w W W' : World} {tb : Nat} {q : QB} {now now' o o' : Int} {L Lc : List Ent} {sb n : Nat} {fs : Nat → Bool} (h : OnceM w W tb q now o L sb n fs) (t : Ts w.heap.size W' tb q 60 now' o' Lc) (k : Kept (fun k => q.turns k ∨ k = tb) W W') : OnceM w W' tb q now' o' Lc sb n fs := by
  refine ⟨t, h.seen.kept (k.block sb h.seen.lt (fun e => ?_)), h.off, h.low.trans (k.below h.low.size (fun b hb => ?_)), h.new⟩
  · rcases e with e | e
    · exact h.off.1 (.inl e)
    · exact h.off.2 e
  · rcases hb with hb | rfl
    · exact h.ts.queue.from b (.inl hb)
    · exact h.ts.base

/-- What is armed, and what the law marks. -/
def Link (ys : List Int) (fs : Nat → Bool) (L : List Ent) : Prop := (∀ x ∈ L, ∃ j, j < ys.length ∧ x = ((j : Int), ys.getD j 0)) ∧ ∀ j, j < ys.length → (fs j = true ↔ ((j : Int), ys.getD j 0) ∈ L)
theorem Link.perm {ys : List Int} {fs : Nat → Bool} {L L' : List Ent} (h : Link ys fs L) (p : L.Perm L') : Link ys fs L' :=
  ⟨fun x hx => h.1 x (p.mem_iff.2 hx), fun j hj => (h.2 j hj).trans p.mem_iff⟩
theorem Link.take {ys : List Int} {fs : Nat → Bool} {R : List Ent} {j : Nat} (h : Link ys fs (((j : Int), ys.getD j 0) :: R)) (hd : ((j : Int), ys.getD j 0) ∉ R) : Link ys (fun k => if k = j then false else fs k) R := by
  refine ⟨fun x hx => h.1 x (List.mem_cons_of_mem _ hx), fun k hk => ?_⟩
  show (if k = j then false else fs k) = true ↔ _
  by_cases e : k = j
  · subst e
    rw [if_pos rfl]
    exact ⟨(fun x => by cases x), fun x => absurd x hd⟩
  · rw [if_neg e, h.2 k hk, List.mem_cons]
    constructor
    · rintro (x | x)
      · have := congrArg Prod.fst x
        simp only at this
        omega
      · exact x
    · exact .inr
/-- While timers are armed, one behind the other. -/
def LinkTo (ys : List Int) (i : Nat) (fs : Nat → Bool) (L : List Ent) : Prop := Link ys fs L ∧ (∀ x ∈ L, x.1 < (i : Int)) ∧ L.length ≤ i ∧ ∀ j, i ≤ j → fs j = false
theorem linkTo_nil (ys : List Int) : LinkTo ys 0 (fun _ => false) [] :=
  ⟨⟨(fun x hx => by cases hx), fun j _ => ⟨(fun x => by cases x), (fun x => by cases x)⟩⟩, (fun x hx => by cases hx), Nat.le_refl _, fun _ _ => rfl⟩
theorem LinkTo.yes {ys : List Int} {i : Nat} {fs : Nat → Bool} {L : List Ent} (h : LinkTo ys i fs L) (hi : i < ys.length) : LinkTo ys (i + 1) (fun k => if k = i then true else fs k) (((i : Int), ys.getD i 0) :: L) := by
  refine ⟨⟨fun x hx => ?_, fun j hj => ?_⟩, fun x hx => ?_, by rw [List.length_cons]; have := h.2.2.1; omega, fun j hj => ?_⟩
  · rcases List.mem_cons.1 hx with rfl | hx
    · exact ⟨i, hi, rfl⟩
    · exact h.1.1 x hx
  · show (if j = i then true else fs j) = true ↔ _
    by_cases e : j = i
    · subst e
      rw [if_pos rfl]
      exact ⟨fun _ => List.mem_cons_self, fun _ => rfl⟩
    · rw [if_neg e, h.1.2 j hj, List.mem_cons]
      constructor
      · exact .inr
      · rintro (x | x)
        · have := congrArg Prod.fst x
          simp only at this
          omega
        · exact x
  · rcases List.mem_cons.1 hx with rfl | hx
    · show (i : Int) < _; omega
    · have := h.2.1 x hx; omega
  · show (if j = i then true else fs j) = false
    rw [if_neg (by omega)]
    exact h.2.2.2 j (by omega)
theorem LinkTo.no {ys : List Int} {i : Nat} {fs : Nat → Bool} {L : List Ent} (h : LinkTo ys i fs L) : LinkTo ys (i + 1) (fun k => if k = i then false else fs k) L := by
  have e : (fun k => if k = i then false else fs k) = fs := by
    funext k
    by_cases e : k = i
    · subst e
      rw [if_pos rfl, h.2.2.2 k (Nat.le_refl _)]
    · rw [if_neg e]
  rw [e]
  exact ⟨h.1, fun x hx => by have := h.2.1 x hx; omega, by have := h.2.2.1; omega, fun j hj => h.2.2.2 j (by omega)⟩

/-- A timer that was due, in a block of its own. -/
def Bf (W : World) (b : Nat) (x y z : Int) : Prop := W.heap[b]? = some (.cells #[.int .i64 x, .int .i64 y, .int .i64 z] 86 (0, 0))
theorem Bf.lt {W : World} {b : Nat} {x y z : Int} (h : Bf W b x y z) : b < W.heap.size := (Array.getElem?_eq_some_iff.1 h).1
theorem Bf.cells {W : World} {b : Nat} {x y z : Int} (h : Bf W b x y z) : W.cell? ⟨b, 0, none⟩ = some (.int .i64 x) ∧ W.cell? ⟨b, 1, none⟩ = some (.int .i64 y) ∧ W.cell? ⟨b, 2, none⟩ = some (.int .i64 z) := by
  unfold Bf at h
  refine ⟨?_, ?_, ?_⟩ <;> simp [World.cell?, h]
theorem Bf.next {W W' : World} {b : Nat} {x y z : Int} (h : Bf W b x y z) (hb : Below W.heap.size W W') : Bf W' b x y z := (hb.block b h.lt).trans h
theorem Bf.start (w : World) (x y z : Int) : Bf (w.alloc (.cells #[.int .i64 x, .int .i64 y, .int .i64 z] 86)) w.heap.size x y z := by
  unfold Bf
  show (w.heap.push _)[w.heap.size]? = _
  simp
theorem Bf.far {W : World} {b c : Nat} {x y z : Int} (h : Bf W b x y z) (hc : b ≠ c) (o : Nat) (v : Value) : Bf (W.setCell ⟨c, o, none⟩ v) b x y z := by
  unfold Bf at h ⊢
  rw [Below.heap_setCell _ _ _ _ hc]
  exact h

theorem flatF_at (now : Int) : ∀ (D : List Ent) (k : Nat), k < D.length → (flatF now D)[k * 3]? = some (.int .i64 (D.getD k (0, 0)).1) ∧ (flatF now D)[k * 3 + 1]? = some (.int .i64 (D.getD k (0, 0)).2) ∧ (flatF now D)[k * 3 + 2]? = some (.int .i64 (now - (D.getD k (0, 0)).2))
  | [], k, h => by simp at h
  | x :: r, 0, h => by simp [flatF]
  | x :: r, k + 1, h => by
    have := flatF_at now r k (by simpa using h)
    have e : (k + 1) * 3 = k * 3 + 1 + 1 + 1 := by omega
    rw [e]
    simpa [flatF] using this

/-- Where the law goes through what is due: k of them were looked at. -/
structure OnceK (w W : World) (tb : Nat) (q : QB) (now o o' : Int) (Lc D : List Ent) (sb n : Nat) (ys : List Int) (v : Value) (B6 lb k : Nat) (ow : Int) (fs : Nat → Bool) (lt ld : Int) : Prop where
  m : OnceM w W tb q now o' Lc sb n fs
  link : Link ys fs (D.drop k ++ Lc)
  worst : ow = (D.take k).foldl (fun m x => max m (now - x.2)) o
  row : W.ownsRow B6 86 3 v D.length (flatF now D)
  key : B2 W lb lt ld
  first : k = 0 → lt = -1
  prev : 0 < k → D.getD (k - 1) (0, 0) = (ld, lt)
  offq : ∀ b, q.own b ∨ b = tb → b < lb
  offs : sb < lb
  offr : ∀ g, v.ownBlock = some g → g < lb ∧ g ≠ sb
theorem OnceK.lies {w W W' : World} {tb : Nat} {q : QB} {now o o' : Int} {Lc D : List Ent} {sb n : Nat} {ys : List Int} {v : Value} {B6 lb k : Nat} {ow : Int} {fs : Nat → Bool} {lt ld : Int} (h : OnceK w W tb q now o o' Lc D sb n ys v B6 lb k ow fs lt ld) (b : Below W.heap.size W W') : OnceK w W' tb q now o o' Lc D sb n ys v B6 lb k ow fs lt ld :=
  ⟨h.m.lies b, h.link, h.worst, own_kept h.row (fun g e => b.block g (own_lt h.row g e)), h.key.next b, h.first, h.prev, h.offq, h.offs, h.offr⟩
/-- One more: it is marked no more, it is the last one, and how late it is counts. -/
theorem OnceK.step {w W : World} {tb : Nat} {q : QB} {now o o' : Int} {Lc D : List Ent} {sb n : Nat} {ys : List Int} {v : Value} {B6 lb k : Nat} {ow : Int} {fs : Nat → Bool} {lt ld : Int} (h : OnceK w W tb q now o o' Lc D sb n ys v B6 lb k ow fs lt ld) (hk : k < D.length) {jj : Nat} (hj : jj < n) (hx : D.getD k (0, 0) = ((jj : Int), ys.getD jj 0)) (hnd : (D ++ Lc).Nodup) :
    OnceK w (((W.setCell ⟨sb, jj, none⟩ (.bool false)).setCell ⟨lb, 0, none⟩ (.int .i64 (ys.getD jj 0))).setCell ⟨lb, 1, none⟩ (.int .i64 (jj : Int))) tb q now o o' Lc D sb n ys v B6 lb (k + 1) (max ow (now - ys.getD jj 0)) (fun m => if m = jj then false else fs m) (ys.getD jj 0) (jj : Int) := by
  have hdrop : D.drop k = ((jj : Int), ys.getD jj 0) :: D.drop (k + 1) := by
    rw [← hx, List.drop_eq_getElem_cons hk, List.getD_eq_getElem?_getD, List.getElem?_eq_getElem hk]
    rfl
  have ne1 : sb ≠ lb := Nat.ne_of_lt h.offs
  have kk : Kept (fun b => b = lb) (W.setCell ⟨sb, jj, none⟩ (.bool false)) (((W.setCell ⟨sb, jj, none⟩ (.bool false)).setCell ⟨lb, 0, none⟩ (.int .i64 (ys.getD jj 0))).setCell ⟨lb, 1, none⟩ (.int .i64 (jj : Int))) :=
    ((Kept.refl (fun b => b = lb) _).setCell (p := ⟨lb, 0, none⟩) (.inl rfl) _).setCell (p := ⟨lb, 1, none⟩) (.inl rfl) _
  have m1 := h.m.put hj false
  have hlb : w.heap.size ≤ lb := Nat.le_trans h.m.new (Nat.le_of_lt h.offs)
  refine ⟨⟨m1.ts.kept kk (fun b hb e => by have := h.offq b hb; omega), m1.seen.kept (kk.block sb m1.seen.lt (fun e => ne1 e)), m1.off, (m1.low.setCell hlb _).setCell hlb _, m1.new⟩, ?_, ?_, ?_, ?_, fun e => by omega, fun _ => by rw [Nat.add_sub_cancel]; exact hx, h.offq, h.offs, h.offr⟩
  · have l := h.link
    rw [hdrop, List.cons_append] at l
    refine l.take (fun hm => ?_)
    have hs : (D.drop k ++ Lc).Nodup := hnd.sublist ((List.drop_sublist k D).append_right Lc)
    rw [hdrop, List.cons_append] at hs
    exact (List.nodup_cons.1 hs).1 hm
  · have : D.take (k + 1) = D.take k ++ [D.getD k (0, 0)] := by
      rw [List.take_add_one, List.getD_eq_getElem?_getD, List.getElem?_eq_getElem hk]; rfl
    rw [this, List.foldl_append, ← h.worst, hx]
    rfl
  · refine own_kept h.row (fun g e => ?_)
    obtain ⟨o1, o2⟩ := h.offr g e
    rw [Below.heap_setCell _ _ _ _ (by show g ≠ lb; omega), Below.heap_setCell _ _ _ _ (by show g ≠ lb; omega), Below.heap_setCell _ _ _ _ (by show g ≠ sb; exact o2)]
  · exact (h.key.far (fun e => ne1 e.symm) _ _).set _ _

/-- What a row of timers holds, if there are any. -/
theorem rowN {w : World} {B n : Nat} {ra : Option Addr} {rc : Nat} {xs : List Value} (h : w.ownsRow B 86 3 (.slice ra n rc) n xs) (hn : 0 < n) : ∃ g, ra = some ⟨g, 0, none⟩ ∧ ∀ j u, xs[j]? = some u → w.cell? ⟨g, j, none⟩ = some u := by
  rcases h.2 with ⟨e, _⟩ | ⟨g, cap, cur, e, hb, h3, r⟩
  · cases e
    omega
  · cases e
    refine ⟨g, rfl, fun j u hj => ?_⟩
    have := h.cells rfl j u hj
    by_cases hj0 : j = 0
    · subst hj0
      simpa [Addr.add] using this
    · simpa [Addr.add, hj0] using this
theorem sorted_getD {D : List Ent} (h : Sorted D) {i j : Nat} (hij : i < j) (hj : j < D.length) : ah (D.getD i (0, 0)) (D.getD j (0, 0)) = true := by
  rw [List.getD_eq_getElem?_getD, List.getD_eq_getElem?_getD, List.getElem?_eq_getElem (by omega), List.getElem?_eq_getElem hj]
  exact List.pairwise_iff_getElem.1 h i j (by omega) hj hij
theorem mem_getD5 {D : List Ent} {k : Nat} (hk : k < D.length) : D.getD k (0, 0) ∈ D ∧ D.getD k (0, 0) ∈ D.drop k := by
  rw [List.getD_eq_getElem?_getD, List.getElem?_eq_getElem hk]
  exact ⟨List.getElem_mem hk, by rw [List.drop_eq_getElem_cons hk]; exact List.mem_cons_self⟩
end Go.Proofs.Ytpglkakbiaihdaa
