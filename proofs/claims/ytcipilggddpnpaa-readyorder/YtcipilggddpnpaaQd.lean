/-
  ready.Queue: takeBack, Put.
-/
import Derived.Test.YtcipilggddpnpaaQc
namespace Go.Proofs.Ytcipilggddpnpaa
open Go.RowKit Go.Sort Go.Shelf Go.Maps
set_option linter.unusedVariables false
set_option linter.unusedSimpArgs false

/-- The keys l (numbers with their times) lie at a. -/
def KeysAt (w : World) (a : Option Addr) (l : List Ent) : Prop :=
  l.length = 0 ∨ ∃ g o, a = some ⟨g, o, none⟩ ∧ g < w.heap.size ∧ ∀ i, i < l.length → (w.cell? ⟨g, o + i * 2, none⟩ = some (.int .i64 (l.getD i (0, 0)).2) ∧ w.cell? ⟨g, o + i * 2 + 1, none⟩ = some (.int .i64 (l.getD i (0, 0)).1)) ∧ Is64 (l.getD i (0, 0)).1 ∧ Is64 (l.getD i (0, 0)).2
/-- Its block is none that S has. -/
def Off (a : Option Addr) (S : Nat → Prop) : Prop := ∀ x, a = some x → ¬ S x.block
theorem KeysAt.kept {w w' : World} {a : Option Addr} {l : List Ent} {S : Nat → Prop} (h : KeysAt w a l) (k : Kept S w w') (hs : Off a S) : KeysAt w' a l := by
  rcases h with h | ⟨g, o, rfl, hg, hc⟩
  · exact .inl h
  · refine .inr ⟨g, o, rfl, Nat.lt_of_lt_of_le hg k.size, fun i hi => ?_⟩
    obtain ⟨⟨h1, h2⟩, h3⟩ := hc i hi
    exact ⟨⟨(k.cell (p := ⟨g, o + i * 2, none⟩) hg (hs ⟨g, o, none⟩ rfl)).trans h1, (k.cell (p := ⟨g, o + i * 2 + 1, none⟩) hg (hs ⟨g, o, none⟩ rfl)).trans h2⟩, h3⟩
theorem KeysAt.take {w : World} {a : Option Addr} {l : List Ent} (h : KeysAt w a l) (n : Nat) : KeysAt w a (l.take n) := by
  rcases h with h | ⟨g, o, rfl, hg, hc⟩
  · exact .inl (by rw [List.length_take]; omega)
  · refine .inr ⟨g, o, rfl, hg, fun i hi => ?_⟩
    rw [List.length_take] at hi
    have e : (l.take n).getD i (0, 0) = l.getD i (0, 0) := by
      rw [List.getD_eq_getElem?_getD, List.getD_eq_getElem?_getD, List.getElem?_take, if_pos (by omega)]
    rw [e]
    exact hc i (by omega)

theorem take_getD {l : List Ent} {i : Nat} (h : i < l.length) : (l.take (i + 1)).reverse = l.getD i (0, 0) :: (l.take i).reverse := by
  rw [List.take_add_one, List.getD_eq_getElem?_getD, List.getElem?_eq_getElem h]
  simp

set_option maxHeartbeats 2000000 in
set_option maxRecDepth 20000 in
/-- takeBack: what is there but for l stays. -/
theorem takeBack_any {B : Nat} {w : World} {q : QB} {L l : List Ent} (h : Qs B w q (l ++ L)) (a : Option Addr) (cap : Nat) (hl : KeysAt w a l) (ha : Off a q.turns) (hn : l.length < 1099511627776) :
    Calls Try.prog 69 #[.pointer (some ⟨q.qb, 0, none⟩), .slice a l.length cap] w fun E w' => E = .returned (.tuple #[]) ∧ LeftQ B w w' q q L := by
  have H1 : Hid (LeftQ B w w q q (l.drop 0 ++ L)) := LeftQ.grew h (Grew.refl w)
  have HL : Hid (KeysAt w a l ∧ Off a q.turns) := ⟨hl, ha⟩
  clear h hl ha
  obtain ⟨n, hn0⟩ : ∃ n, l.length = n := ⟨_, rfl⟩
  have HN := Lib.hid hn0
  rw [hn0] at hn ⊢
  clear hn0
  go_enter Try.func69, Try.ntmps69
  go_wp2
  go_loopg [8] n (fun gk s wr => ∃ i : Nat, s = .int .i64 i ∧ i ≤ n ∧ n - i ≤ gk ∧ Hid (LeftQ B w wr q q (l.drop i ++ L)))
  case atStart => exact ⟨0, rfl, Nat.zero_le _, Nat.le_refl _, H1.out⟩
  case round =>
    rename World => W2
    obtain ⟨i, rfl, hin, hgk, HR⟩ := hrel
    by_cases hi : i < n
    · have hi' : decide ((i : Int) < (n : Int)) = true := decide_eq_true (by omega)
      have hiz : (i : Int) < (n : Int) := by omega
      have q4 : IntKind.i64.wrap ((i : Int) + 1) = (i : Int) + 1 := by rw [IntKind.wrap_i64]; omega
      have hi2 : i < l.length := by rw [HN.out]; exact hi
      have hR := HR.out
      rcases HL.out.1.kept hR.kept HL.out.2 with h | ⟨g, o, rfl, hg, hc⟩
      · rw [HN.out] at h; omega
      obtain ⟨⟨c1, c2⟩, hx⟩ := hc i hi2
      have e0 : l.drop i ++ L = l.getD i (0, 0) :: (l.drop (i + 1) ++ L) := by rw [drop_getD hi2]; rfl
      have CD : Hid (∀ W3, Grew W2 W3 → Calls Try.prog 48 #[.pointer (some ⟨q.qb, 0, none⟩), .int .i64 (l.getD i (0, 0)).1] W3 fun E w' => (∃ v, E = .returned v) ∧ LeftQ B w w' q q (l.drop (i + 1) ++ L)) := fun W3 g3 => by
        have h3 := hR.step g3
        rw [e0] at h3
        refine (qdrop_there h3.queue (l.getD i (0, 0)) (List.mem_cons_self ..)).mono ?_
        rintro E w' ⟨rfl, l'⟩
        rw [List.erase_cons_head] at l'
        exact ⟨⟨_, rfl⟩, h3.trans l'⟩
      clear hc hx hR HR H1 e0
      generalize (l.getD i (0, 0)).1 = id at *
      generalize (l.getD i (0, 0)).2 = t at *
      go_wp2_with fail
      refine (CD.out _ ((Grew.refl W2).alloc _)).mono ?_
      rintro E W4 ⟨⟨v, rfl⟩, h4⟩
      have H4 := Lib.hid h4
      clear h4
      go_wp2
      go_roundg (n - (i + 1))
      case measure => omega
      case rel => exact ⟨i + 1, by go_num, by omega, Nat.le_refl _, (show Hid _ from H4.out)⟩
    · obtain rfl : i = n := by omega
      have hi' : decide ((i : Int) < (i : Int)) = false := decide_eq_false (by omega)
      go_wp2
      go_end0
      have hR := HR.out
      rw [List.drop_of_length_le (by rw [HN.out]; exact Nat.le_refl _), List.nil_append] at hR
      exact ⟨rfl, hR⟩

/-- What Put answers. -/
def putsR : List Ent → List Ent → Int
  | _, [] => 0
  | L, x :: r => if putR L x = 0 then putsR (x :: L) r else putR L x
/-- .. and leaves. -/
def putsL (L l : List Ent) : List Ent := if putsR L l = 0 then l.reverse ++ L else L

set_option maxHeartbeats 2000000 in
set_option maxRecDepth 20000 in
theorem qput_gen {B : Nat} {w : World} {q : QB} {L l : List Ent} (h : Qs B w q L) (hB : B ≤ w.heap.size) (a : Option Addr) (cap : Nat) (hl : KeysAt w a l) (ha : l.length ≠ 0 → Off a q.turns) (hcap : l.length ≤ cap) (hr : L.length + l.length < 1099511627776) :
    Calls Try.prog 44 #[.pointer (some ⟨q.qb, 0, none⟩), .slice a l.length cap] w fun E w' => E = .returned (.int .i64 (putsR L l)) ∧ ∃ q', LeftQ B w w' q q' (putsL L l) := by
  have H1 : Hid (∃ q', LeftQ B w w q q' ((l.take 0).reverse ++ L) ∧ putsR L l = putsR ((l.take 0).reverse ++ L) (l.drop 0)) := ⟨q, LeftQ.grew h (Grew.refl w), rfl⟩
  have HL : Hid (KeysAt w a l ∧ (l.length ≠ 0 → Off a q.turns) ∧ B ≤ w.heap.size ∧ L.length + l.length < 1099511627776) := ⟨hl, ha, hB, hr⟩
  clear h hl ha hB
  obtain ⟨r, er⟩ : ∃ r, putsR L l = r := ⟨_, rfl⟩
  obtain ⟨M, eM⟩ : ∃ M, putsL L l = M := ⟨_, rfl⟩
  rw [er, eM]
  have ER : Hid (putsR L l = r ∧ putsL L l = M) := ⟨er, eM⟩
  clear er eM
  obtain ⟨n, hn0⟩ : ∃ n, l.length = n := ⟨_, rfl⟩
  have HN := Lib.hid hn0
  rw [hn0] at hcap hr ⊢
  clear hn0
  have hn : n < 1099511627776 := by omega
  clear hr
  go_enter Try.func44, Try.ntmps44
  go_wp2
  go_loopg [12] n (fun gk s wr => ∃ i : Nat, s = .int .i64 i ∧ i ≤ n ∧ n - i ≤ gk ∧ Hid (∃ q', LeftQ B w wr q q' ((l.take i).reverse ++ L) ∧ putsR L l = putsR ((l.take i).reverse ++ L) (l.drop i)))
  case atStart => exact ⟨0, rfl, Nat.zero_le _, Nat.le_refl _, H1.out⟩
  case round =>
    rename World => W2
    obtain ⟨i, rfl, hin, hgk, HR⟩ := hrel
    by_cases hi : i < n
    · have hi' : decide ((i : Int) < (n : Int)) = true := decide_eq_true (by omega)
      have hiz : (i : Int) < (n : Int) := by omega
      have q4 : IntKind.i64.wrap ((i : Int) + 1) = (i : Int) + 1 := by rw [IntKind.wrap_i64]; omega
      have hi2 : i < l.length := by rw [HN.out]; exact hi
      obtain ⟨q1, hR, hs⟩ := HR.out
      obtain ⟨hl, ha0, hB, hr⟩ := HL.out
      have ha : Off a q.turns := ha0 (by omega)
      have hl2 := hl.kept hR.kept ha
      have ha2 : Off a q1.turns := fun x e hx => by
        rcases hR.moved _ hx with y | y
        · exact ha x e y
        · rcases hl with z | ⟨g, o, e2, hg, _⟩
          · omega
          · rw [e] at e2
            cases e2
            exact absurd hg (by exact Nat.not_lt.2 y)
      have hl3 := hl2
      rcases hl2 with h | ⟨g, o, rfl, hg, hc⟩
      · rw [HN.out] at h; omega
      obtain ⟨⟨c1, c2⟩, hx⟩ := hc i hi2
      rw [drop_getD hi2] at hs
      have e1 := take_getD hi2
      have hlen : ((l.take i).reverse ++ L).length < 1099511627776 := by
        rw [List.length_append, List.length_reverse, List.length_take]; omega
      have CP : Hid (∀ W3, Grew W2 W3 → Calls Try.prog 68 #[.pointer (some ⟨q.qb, 0, none⟩), .agg #[.int .i64 (l.getD i (0, 0)).2, .int .i64 (l.getD i (0, 0)).1]] W3 fun E w' => E = .returned (.int .i64 (putR ((l.take i).reverse ++ L) (l.getD i (0, 0)))) ∧ ∃ q', LeftQ B w w' q q' (if putR ((l.take i).reverse ++ L) (l.getD i (0, 0)) = 0 then l.getD i (0, 0) :: ((l.take i).reverse ++ L) else ((l.take i).reverse ++ L)) ∧ Off (some ⟨g, o, none⟩) q'.turns ∧ KeysAt w' (some ⟨g, o, none⟩) l) := fun W3 g3 => by
        have h3 := hR.step g3
        have := putOne_any h3.queue (Nat.le_trans hB h3.kept.size) (l.getD i (0, 0)) hx hlen
        rw [hR.here.1] at this
        refine this.mono ?_
        rintro E w' ⟨rfl, q', l'⟩
        refine ⟨rfl, q', h3.trans l', fun x e hx => ?_, (hl3.kept (g3.kept _) ha2).kept l'.kept ha2⟩
        rcases l'.moved _ hx with y | y
        · exact ha2 x e y
        · cases e
          have := g3.size
          exact absurd hg (by simp only [Nat.not_lt]; exact Nat.le_trans this y)
      by_cases hp : putR ((l.take i).reverse ++ L) (l.getD i (0, 0)) = 0
      · have fin : Hid (∀ q' w', LeftQ B w w' q q' (l.getD i (0, 0) :: ((l.take i).reverse ++ L)) → ∃ q', LeftQ B w w' q q' ((l.take (i + 1)).reverse ++ L) ∧ putsR L l = putsR ((l.take (i + 1)).reverse ++ L) (l.drop (i + 1))) := fun q' w' l' => by
          refine ⟨q', ?_, ?_⟩
          · rw [e1]; exact l'
          · rw [e1, hs]
            show (if putR _ _ = 0 then _ else _) = _
            rw [if_pos hp]
            rfl
        simp only [hp, if_true] at CP
        clear hc hx hR HR H1 hs e1 hl hl3 ha2 hlen HL hp
        generalize l.getD i (0, 0) = x at *
        obtain ⟨id, t⟩ := x
        simp only [] at *
        go_wp2_with fail
        refine (CP.out _ ((Grew.refl W2).alloc _)).mono ?_
        rintro E W4 ⟨rfl, q', l4, _⟩
        have H4 := Lib.hid (fin.out q' W4 l4)
        clear l4 fin
        go_wp2
        go_roundg (n - (i + 1))
        case measure => omega
        case rel => exact ⟨i + 1, by go_num, by omega, Nat.le_refl _, (show Hid _ from H4.out)⟩
      · have CT : Hid (∀ q' w', LeftQ B w w' q q' ((l.take i).reverse ++ L) → Off (some ⟨g, o, none⟩) q'.turns → KeysAt w' (some ⟨g, o, none⟩) l → Calls Try.prog 69 #[.pointer (some ⟨q.qb, 0, none⟩), .slice (some ⟨g, o, none⟩) i cap] w' fun E w2 => E = .returned (.tuple #[]) ∧ LeftQ B w w2 q q' L) := fun q' w' l' o' k' => by
          have hq := l'.queue.perm (L' := l.take i ++ L) ((List.reverse_perm _).append_right _)
          have := takeBack_any hq (some ⟨g, o, none⟩) cap (k'.take i) o' (by rw [List.length_take]; omega)
          rw [List.length_take, Nat.min_eq_left (by omega), l'.here.1] at this
          refine this.mono ?_
          rintro E w2 ⟨rfl, l2⟩
          exact ⟨rfl, l'.trans l2⟩
        have he : putsR L l = putR ((l.take i).reverse ++ L) (l.getD i (0, 0)) := by
          rw [hs]
          show (if putR _ _ = 0 then _ else _) = _
          rw [if_neg hp]
        have hne : putsR L l ≠ 0 := by rw [he]; exact hp
        simp only [hp, if_false] at CP
        rw [← he, ER.out.1] at CP
        have EL : Hid (M = L) := ER.out.2.symm.trans (if_neg hne)
        rw [ER.out.1] at hne
        have t1 : (r != 0) = true := by simpa using hne
        have t2 : (r == 0) = false := by simpa using hne
        have hic : i ≤ cap := by omega
        have hic' : (i : Int) ≤ (cap : Int) := by omega
        clear hc hx hR HR H1 hs e1 hl hl3 ha2 hlen HL hp he hne
        generalize l.getD i (0, 0) = x at *
        obtain ⟨id, t⟩ := x
        simp only [] at *
        go_wp2_with fail
        refine (CP.out _ ((Grew.refl W2).alloc _)).mono ?_
        rintro E W4 ⟨rfl, q', l4, o4, k4⟩
        have C4 := Lib.hid (CT.out q' W4 l4 o4 k4)
        clear l4 CT o4 k4
        go_wp2_with fail
        refine C4.out.mono ?_
        rintro E W5 ⟨rfl, l5⟩
        have L5 := Lib.hid l5
        clear l5
        go_wp2
        go_ret
        exact ⟨rfl, q', EL.out.symm ▸ L5.out⟩
    · obtain rfl : i = n := by omega
      have hi' : decide ((i : Int) < (i : Int)) = false := decide_eq_false (by omega)
      go_wp2
      go_ret
      obtain ⟨q1, hR, hs⟩ := HR.out
      have e : l.drop i = [] := List.drop_of_length_le (by rw [HN.out]; exact Nat.le_refl _)
      have e2 : l.take i = l := List.take_of_length_le (by rw [HN.out]; exact Nat.le_refl _)
      rw [e] at hs
      have hs : putsR L l = 0 := hs
      rw [e2] at hR
      have e0 : r = 0 := ER.out.1.symm.trans hs
      have e3 : M = l.reverse ++ L := ER.out.2.symm.trans (if_pos hs)
      refine ⟨by rw [e0]; rfl, q1, ?_⟩
      rw [e3]
      exact hR
theorem qput_any {B : Nat} {w : World} {q : QB} {L l : List Ent} (h : Qs B w q L) (hB : B ≤ w.heap.size) (a : Option Addr) (cap : Nat) (hl : KeysAt w a l) (ha : Off a q.turns) (hcap : l.length ≤ cap) (hr : L.length + l.length < 1099511627776) :
    Calls Try.prog 44 #[.pointer (some ⟨q.qb, 0, none⟩), .slice a l.length cap] w fun E w' => E = .returned (.int .i64 (putsR L l)) ∧ ∃ q', LeftQ B w w' q q' (putsL L l) := qput_gen h hB a cap hl (fun _ => ha) hcap hr
end Go.Proofs.Ytcipilggddpnpaa
