/-
  Heap[int]: New, Put.
-/
import Derived.Test.YtcipilggddpnpaaHpG
import Derived.Maps.AppendAt
namespace Go.Proofs.Ytcipilggddpnpaa
open Go.RowKit Go.Sort Go.Shelf Go.Maps
set_option linter.unusedVariables false
set_option linter.unusedSimpArgs false

theorem Kept.andThen {S T : Nat → Prop} {a b c : World} (h : Kept S a b) (k : Kept T b c) (hs : ∀ i, T i → S i ∨ a.heap.size ≤ i) : Kept S a c :=
  ⟨k.os.trans h.os, k.tape.trans h.tape, k.output.trans h.output, Nat.le_trans h.size k.size, fun i hi hn => (k.block i (Nat.lt_of_lt_of_le hi h.size) (fun t => by rcases hs i t with x | x; exact hn x; omega)).trans (h.block i hi hn)⟩

def flat : List Ent → List Value
  | [] => []
  | x :: r => .int .i64 x.1 :: .int .i64 x.2 :: flat r

theorem len_flat : ∀ R : List Ent, (flat R).length = R.length * 2
  | [] => rfl
  | x :: r => by simp [flat, len_flat r]; omega
theorem flat_append : ∀ R S : List Ent, flat (R ++ S) = flat R ++ flat S
  | [], S => rfl
  | x :: r, S => by simp [flat, flat_append r S]
theorem flat_get : ∀ (R : List Ent) (i : Nat), i < R.length → (flat R)[i * 2]? = some (.int .i64 (rid R i)) ∧ (flat R)[i * 2 + 1]? = some (.int .i64 (rky R i))
  | x :: r, 0, _ => by simp [flat, rid, rky]
  | x :: r, i + 1, h => by
    have := flat_get r i (by simpa using h)
    have e1 : (i + 1) * 2 = i * 2 + 1 + 1 := by omega
    rw [e1]
    simpa [flat, rid, rky] using this
theorem take_flat : ∀ (R : List Ent) (l : List Value), (∀ i, i < R.length → l[i * 2]? = some (.int .i64 (rid R i)) ∧ l[i * 2 + 1]? = some (.int .i64 (rky R i))) → l.take (R.length * 2) = flat R
  | [], l, _ => by simp [flat]
  | x :: r, [], h => by have := (h 0 (by simp)).1; simp at this
  | x :: r, [a], h => by have := (h 0 (by simp)).2; simp at this
  | x :: r, a :: b :: l, h => by
    have h0 := h 0 (by simp)
    simp [rid, rky] at h0
    have e1 : (x :: r).length * 2 = r.length * 2 + 1 + 1 := by simp; omega
    rw [e1, List.take_succ_cons, List.take_succ_cons, take_flat r l, flat, h0.1, h0.2]
    intro i hi
    have := h (i + 1) (by simpa using hi)
    have e2 : (i + 1) * 2 = i * 2 + 1 + 1 := by omega
    rw [e2] at this
    simpa [rid, rky] using this

theorem RowAt.owns {w : World} {rb cap : Nat} {R : List Ent} (h : RowAt w rb cap R) : w.ownsRow 0 74 2 (.slice (some ⟨rb, 0, none⟩) R.length cap) R.length (flat R) := by
  obtain ⟨⟨cur, h1, h2, h5⟩, h3, h4⟩ := h
  exact ⟨len_flat R, .inr ⟨rb, cap, cur, rfl, Nat.zero_le _, h1, h3, h4, h2, take_flat R cur.toList (fun i hi => by simpa using h5 i hi)⟩⟩
theorem RowAt.of_owns {w : World} {v : Value} {R : List Ent} (h : w.ownsRow 0 74 2 v R.length (flat R)) (h0 : R ≠ []) : ∃ rb cap, v = .slice (some ⟨rb, 0, none⟩) R.length cap ∧ RowAt w rb cap R := by
  rcases h.2 with ⟨_, hn⟩ | ⟨rb, cap, cur, rfl, _, h1, h2, h3, h4, h5⟩
  · exact absurd (List.eq_nil_of_length_eq_zero hn) h0
  · refine ⟨rb, cap, rfl, ⟨cur, h1, h4, fun i hi => ?_⟩, h2, h3⟩
    have hg := flat_get R i hi
    rw [← h5, List.getElem?_take, List.getElem?_take, if_pos (by omega), if_pos (by omega)] at hg
    simpa using hg

theorem HP.owns {w : World} {hb mb : Nat} {ro : Option Nat} {fv : Value} {R : List Ent} (h : HP w hb mb ro fv R) : ∃ rv, Obj3 w hb fv rv (.map (some mb)) ∧ w.ownsRow 0 74 2 rv R.length (flat R) ∧ rv.ownBlock = ro ∧ (∀ k, ro = some k → k ≠ hb ∧ k ≠ mb) ∧ (∃ a c, rv = .slice a R.length c) := by
  rcases h with ⟨rfl, rfl, hO, hM⟩ | ⟨rb, cap, rfl, h⟩
  · exact ⟨_, hO, World.ownsRow_nil _ _ _ _, rfl, (fun k e => by cases e), none, 0, rfl⟩
  · exact ⟨_, h.obj, h.row.owns, rfl, (fun k e => by cases e; exact ⟨fun x => h.apart x.symm, fun x => h.mb_ne.2 x.symm⟩), _, _, rfl⟩

theorem Obj3.grown {w w' : World} {hb : Nat} {fv rv mv : Value} {row : Option Nat} (h : Obj3 w hb fv rv mv) (hg : w.grownBy w' row) (hr : some hb ≠ row) : Obj3 w' hb fv rv mv := h.kept (hg.block hb h.lt hr)
theorem Obj3.alloc {w : World} {hb : Nat} {fv rv mv : Value} (h : Obj3 w hb fv rv mv) (o : Obj) : Obj3 (w.alloc o) hb fv rv mv := h.kept (Below.heap_alloc _ _ _ h.lt)

theorem cells_two_new (w : World) (x y : Value) (t : TypeId) : ∀ j u, [x, y][j]? = some u → (w.alloc (.cells #[x, y] t)).cell? ((⟨w.heap.size, 0, none⟩ : Addr).add j) = some u := by
  intro j u hj
  match j, hj with
  | 0, hj => simp at hj; subst hj; simp [Addr.add]
  | 1, hj => simp at hj; subst hj; simp [Addr.add]

theorem app_row {w : World} {v : Value} {R : List Ent} {id k : Int} (h : w.ownsRow 0 74 2 v (R.length + 1) (flat R ++ [.int .i64 id, .int .i64 k])) : ∃ rb cap, v = .slice (some ⟨rb, 0, none⟩) (R.length + 1) cap ∧ RowAt w rb cap (R ++ [(id, k)]) := by
  have e1 : (R ++ [(id, k)]).length = R.length + 1 := by simp
  have e2 : flat (R ++ [(id, k)]) = flat R ++ [.int .i64 id, .int .i64 k] := by rw [flat_append]; rfl
  rw [← e1, ← e2] at h
  obtain ⟨rb, cap, h1, h2⟩ := RowAt.of_owns h (by simp)
  exact ⟨rb, cap, by rw [h1, e1], h2⟩

theorem rid_app (R : List Ent) (x : Ent) (i : Nat) : (R ++ [x]).getD i (0, 0) = if i < R.length then R.getD i (0, 0) else if i = R.length then x else (0, 0) := by
  simp only [List.getD_eq_getElem?_getD, List.getElem?_append]
  by_cases h : i < R.length
  · rw [if_pos h, if_pos h]
  · rw [if_neg h, if_neg h]
    by_cases e : i = R.length
    · subst e; simp
    · rw [if_neg e, List.getElem?_eq_none (by simp; omega)]; rfl

theorem Places.put {D : DataW Unit} {R : List Ent} (h : Places D R) (hD : IsMap D) {id k : Int} (hn : ∀ i, i < R.length → rid R i ≠ id) : Places (D.put (.int .i64 id) (.lit (.int .i64 R.length))) (R ++ [(id, k)]) := by
  have hr : ∀ i, i < R.length → rid (R ++ [(id, k)]) i = rid R i := fun i hi => by unfold rid; rw [rid_app, if_pos hi]
  have hl : rid (R ++ [(id, k)]) R.length = id := by unfold rid; rw [rid_app, if_neg (by omega), if_pos rfl]
  constructor
  · intro i hi
    by_cases e : i < R.length
    · rw [hr i e, has_put_other (lit_ne (hn i e)), atKey_put_other (lit_ne (hn i e))]
      exact h.at_ i e
    · have : i = R.length := by simp at hi; omega
      subst this
      rw [hl]
      exact ⟨has_put_same hD (isKeyLit _) _, atKey_put_same hD (isKeyLit _) _ _⟩
  · intro id' hno
    have g : id' ≠ id := fun x => hno R.length (by simp) (by rw [hl, x])
    rw [has_put_other (lit_ne g)]
    exact h.no id' fun i hi x => hno i (by simp; omega) (by rw [hr i hi, x])

/-- The blocks of a heap. -/
abbrev Mine (hb mb : Nat) (ro : Option Nat) : Nat → Prop := fun k => k = hb ∨ k = mb ∨ ro = some k

set_option maxHeartbeats 1000000 in
theorem put_neg (w : World) (hb : Nat) (id k : Int) (hid : id < 0) :
    Calls Try.prog 10 #[.pointer (some ⟨hb, 0, none⟩), .int .i64 id, .int .i64 k] w fun e w' => e = .returned (.int .i64 1) ∧ w = w' := by
  go_enter Try.func10, Try.ntmps10
  go_wp2
  go_ret
  exact ⟨rfl, rfl⟩

set_option maxHeartbeats 1000000 in
theorem put_there (w : World) (hb mb : Nat) (ro : Option Nat) (fv : Value) (R : List Ent) (h : HP w hb mb ro fv R) (i : Nat) (hi : i < R.length) (k : Int) :
    Calls Try.prog 10 #[.pointer (some ⟨hb, 0, none⟩), .int .i64 (rid R i), .int .i64 k] w fun e w' => e = .returned (.int .i64 15) ∧ w = w' := by
  obtain ⟨rv, D, hO, hM, hP, hS, hsm, hid, _, hmb⟩ := h.all
  have c2 := hO.c2
  have hk : keyOf Try.prog 3 (.int .i64 (rid R i)) = some (.int .i64 (rid R i)) := keyOf_int_mk Try.underlying3 (WalkArith.wf_i64 (hid i hi).2)
  have hh := (hP.at_ i hi).1
  have hge : decide (rid R i < 0) = false := decide_eq_false (by have := (hid i hi).1; omega)
  have HM := Lib.hid hM
  clear hM hO hP hS hsm hid hmb h
  generalize rid R i = id at *
  go_enter Try.func10, Try.ntmps10
  go_wp2_with (at_lookup; refine wpList_lookup_own_ok_int _ rfl _ _ 66 rfl 3 3 .i64 intKeys Try.underlying66 Try.underlying3 (zeroInt _) mb R.length D rfl HM.out _ _ rfl hk ?_; intro c hc _; clear hc)
  go_ret
  exact ⟨rfl, rfl⟩

set_option maxHeartbeats 4000000 in
set_option maxRecDepth 20000 in
theorem put_new (g : Nat) (cb : Array Value) (lt : Int → Int → Bool) (hl : LessIs g cb lt) (hW : Hp.Weak lt) (w : World) (hb mb : Nat) (ro : Option Nat) (R : List Ent) (h : HP w hb mb ro (.func (.func g) #[] cb) R) (hy : Hp.Heapy (ahd lt) (gt R) R.length)
    (id k : Int) (hid : 0 ≤ id ∧ Is64 id) (hk64 : Is64 k) (hn : ∀ i, i < R.length → rid R i ≠ id) (hroom : R.length < 1099511627776) :
    Calls Try.prog 10 #[.pointer (some ⟨hb, 0, none⟩), .int .i64 id, .int .i64 k] w fun e w' => e = .returned (.int .i64 0) ∧ ∃ ro' R', R'.Perm ((id, k) :: R) ∧ Hp.Heapy (ahd lt) (gt R') R'.length ∧
      HP w' hb mb ro' (.func (.func g) #[] cb) R' ∧ Kept (Mine hb mb ro) w w' ∧ (∀ b, ro' = some b → ro = some b ∨ w.heap.size ≤ b) := by
  obtain ⟨_, D, hO', hM, hP, hS, hsm, hids, hkeys, hmb⟩ := h.all
  obtain ⟨rv, hO, hown, hblk, hap, ra, rc, hrv⟩ := h.owns
  have c1 := hO.c1
  have c2 := hO.c2
  have hkey : keyOf Try.prog 3 (.int .i64 id) = some (.int .i64 id) := keyOf_int_mk Try.underlying3 (WalkArith.wf_i64 hid.2)
  have hh := hP.no id hn
  have hge : decide (id < 0) = false := decide_eq_false (by have := hid.1; omega)
  have hval : plainElem (H := Unit) Try.prog 3 (.int .i64 R.length) = some (.lit (.int .i64 R.length), []) := plainElem_int Try.underlying3 (WalkArith.wf_i64 (by omega))
  obtain ⟨i0, hi, hz0, hz1, hz2⟩ := info_parts (P := Try.prog) (e := 74) (z := .agg #[.int .i64 0, .int .i64 0]) (size := 2) (bytes := 16) (by kernel_rfl)
  have HO := Lib.hid hO
  have HM := Lib.hid hM
  have HI : Hid (Try.prog.info? 74 = some i0 ∧ i0.zero = some (.agg #[.int .i64 0, .int .i64 0]) ∧ i0.size = 2 ∧ i0.bytes = 16) := ⟨hi, hz0, hz1, hz2⟩
  have HOwn : Hid (w.ownsRow 0 74 2 rv R.length (flat R)) := hown
  have HRV : Hid (rv.ownBlock = ro ∧ (∀ k, ro = some k → k ≠ hb ∧ k ≠ mb)) := ⟨hblk, hap⟩
  have HP0 : Hid (Places D R ∧ Maps.size D = R.length ∧ (∀ i, i < R.length → 0 ≤ rid R i ∧ Is64 (rid R i)) ∧ (∀ i, i < R.length → Is64 (rky R i)) ∧ Hp.Heapy (ahd lt) (gt R) R.length ∧ (∀ i, i < R.length → rid R i ≠ id)) := ⟨hP, hS, hids, hkeys, hy, hn⟩
  have HL : Hid (LessIs g cb lt ∧ Hp.Weak lt) := ⟨hl, hW⟩
  clear hO hO' hM hP hS hids hkeys hy hn hl hW hown hblk hap hi hz0 hz1 hz2 h
  subst hrv
  go_enter Try.func10, Try.ntmps10
  go_wp2_with (first | (at_lookup; refine wpList_lookup_own_ok_int _ rfl _ _ 66 rfl 3 3 .i64 intKeys Try.underlying66 Try.underlying3 (zeroInt _) mb R.length D rfl HM.out _ _ rfl hkey ?_; intro c hc _; clear hc) | (at_builtin; (refine wpList_append_own_at _ rfl _ _ 67 rfl 0 74 i0 (.agg #[.int .i64 0, .int .i64 0]) 2 16 Try.underlying67 HI.out.1 HI.out.2.1 HI.out.2.2.1 HI.out.2.2.2 rfl (by decide) (.slice ra R.length rc) R.length (flat R) rfl (HOwn.out.alloc _) ⟨w.heap.size, 0, none⟩ 1 1 [.int .i64 id, .int .i64 k] rfl rfl (cells_two_new _ _ _ _) (by simp [Value.oneCell']) (by unfold maxLen; omega) (by omega) (Nat.zero_le _) ?_); intro v' w1 hown1 hgrow1 hnil hloc; obtain ⟨rb, cap, hv', hrow1⟩ := app_row hown1; subst hv'; have hO1 := Lib.hid ((HO.out.alloc _).grown hgrow1 (by rw [HRV.out.1]; exact fun e => (HRV.out.2 hb e.symm).1 rfl)); have d1 := hO1.out.c1; have d2 := hO1.out.c2; have d3 := hO1.out.thaw 1; have HG1 := Lib.hid hgrow1; have HRow1 := Lib.hid hrow1; have HLoc := Lib.hid hloc; have HM1 := Lib.hid (((HM.out.alloc _).kept hgrow1 (by rw [HRV.out.1]; exact fun e => (HRV.out.2 mb e.symm).2 rfl)).setCell (a := ⟨hb, 1, none⟩) hmb (.slice (some ⟨rb, 0, none⟩) (R.length + 1) cap)); clear hown1 hgrow1 hnil hloc hrow1) | (at_mapUpdate; refine wpList_mapUpdate_own _ rfl _ _ _ 66 rfl 3 3 intKeys Try.underlying66 _ mb R.length D rfl HM1.out (by unfold maxLen; omega) _ _ _ rfl rfl hkey _ [] hval ?_; intro w2 hown2 hgrow2; have HOwn2 := Lib.hid hown2; have HG2 := Lib.hid hgrow2; clear hown2 hgrow2))
  obtain ⟨hP, hS, hids, hkeys, hy, hn⟩ := HP0.out
  have hlt := HO.out.lt
  have hmlt := HM.out.lt
  have hloc : ro = some rb ∨ rb = w.heap.size + 1 := by
    rcases HLoc.out with e | e
    · rw [HRV.out.1] at e; exact .inl e.symm
    · simp [Value.ownBlock] at e; exact .inr e
  have hrh : hb ≠ rb := by
    rcases hloc with e | e
    · exact fun x => (HRV.out.2 rb e).1 x.symm
    · omega
  have hrm : mb ≠ rb := by
    rcases hloc with e | e
    · exact fun x => (HRV.out.2 rb e).2 x.symm
    · omega
  have hk0 : Kept (Mine hb mb ro) w w1 := ((Kept.refl _ w).alloc _).grown HG1.out (fun b e => by rw [HRV.out.1] at e; exact .inl (.inr (.inr e)))
  have hk1 : Kept (Mine hb mb ro) w w2 := (hk0.setCell (p := ⟨hb, 1, none⟩) (.inl (.inl rfl)) _).grown HG2.out (fun b e => by cases e; exact .inl (.inr (.inl rfl)))
  have hsl : (R ++ [(id, k)]).length = R.length + 1 := by simp
  have hO2 : Obj3 w2 hb (.func (.func g) #[] cb) (.slice (some ⟨rb, 0, none⟩) (R.length + 1) cap) (.map (some mb)) := (hO1.out.put _).grown HG2.out (by simpa using fun e => hmb e.symm)
  have hR2 : RowAt w2 rb cap (R ++ [(id, k)]) := HRow1.out.kept (by
    rw [HG2.out.block rb (by simpa [World.setCell] using HRow1.out.lt) (by simpa using fun e => hrm e.symm), Below.heap_setCell _ _ _ _ (by exact fun e => hrh e.symm)])
  have hgd : ∀ i, i < R.length → (R ++ [(id, k)]).getD i (0, 0) = R.getD i (0, 0) := fun i hi => by rw [rid_app, if_pos hi]
  have hgl : (R ++ [(id, k)]).getD R.length (0, 0) = (id, k) := by rw [rid_app, if_neg (by omega), if_pos rfl]
  have hsz : Maps.size (D.put (.int .i64 id) (.lit (.int .i64 R.length))) = R.length + 1 := by rw [size_put (HM.out.tidy intKeys), hh, hS]; rfl
  have hH : HeapIs w2 hb rb mb cap (.func (.func g) #[] cb) (R ++ [(id, k)]) := by
    refine ⟨by rw [hsl]; exact hO2, hR2, ⟨_, by rw [hsl]; exact HOwn2.out, hP.put HM.out.isMap hn, by rw [hsl]; exact hsz⟩, hrh, by rw [hsl]; omega, fun i hi => ?_, fun i hi => ?_⟩
    · by_cases e : i < R.length
      · unfold rid; rw [hgd i e]; exact hids i e
      · have : i = R.length := by omega
        subst this
        unfold rid; rw [hgl]; exact hid
    · by_cases e : i < R.length
      · unfold rky; rw [hgd i e]; exact hkeys i e
      · have : i = R.length := by omega
        subst this
        unfold rky; rw [hgl]; exact hk64
  have hrise : Hp.Rises (ahd lt) (gt (R ++ [(id, k)])) (R ++ [(id, k)]).length R.length True := by
    rw [hsl]
    exact (Hp.Heapy.congr hy (fun i hi => hgd i hi)).rises
  have C := rise_any g cb lt HL.out.1 HL.out.2 hb rb mb cap (R ++ [(id, k)]) R.length (by omega) True hrise w2 hH
  rw [hsl] at C
  have HK1 := Lib.hid hk1
  have HLOC := Lib.hid hloc
  clear hP hS hids hkeys hy hn hlt hmlt hrh hrm hk0 hk1 hsl hO2 hR2 hgd hgl hsz hH hrise hloc
  refine C.mono ?_
  rintro e w3 ⟨q, R3, rfl, hq, hp3, _, hy3, hh3, hk3⟩
  have HF : Hid (R3.Perm ((id, k) :: R) ∧ Hp.Heapy (ahd lt) (gt R3) R3.length) := ⟨hp3.trans List.perm_append_comm, by rw [hp3.length_eq]; simpa using hy3 trivial⟩
  have HH3 := Lib.hid hh3
  have HK3 := Lib.hid hk3
  clear hp3 hy3 hh3 hk3 C
  go_wp2
  go_ret
  refine ⟨rfl, some rb, R3, HF.out.1, HF.out.2, .inr ⟨rb, cap, rfl, HH3.out⟩, HK1.out.andThen HK3.out ?_, ?_⟩
  · rintro b (rfl | rfl)
    · rcases HLOC.out with e | e
      · exact .inl (.inr (.inr e))
      · exact .inr (by omega)
    · exact .inl (.inr (.inl rfl))
  · intro b e
    cases e
    rcases HLOC.out with e | e
    · exact .inl e
    · exact .inr (by omega)
end Go.Proofs.Ytcipilggddpnpaa
