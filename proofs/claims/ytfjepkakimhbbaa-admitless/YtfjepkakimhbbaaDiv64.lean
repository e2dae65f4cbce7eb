/-
  The walk of math/bits.Div64: the quotient of a number of 128 bits and one of 64.
-/
import Derived.Test.YtfjepkakimhbbaaWide
import Derived.Test.YtfjepkakimhbbaaLen
import Derived.Test.YtfjepkakimhbbaaDivMath
import Derived.Deep.QuietTactic
import Derived.BigQuiet
import Derived.Laws.BitsAllLaws
import Derived.Deep.DeepCutAuto
import Derived.Deep.LoopGhost
import Derived.Deep.CutBlock
namespace Go.Proofs.Ytfjepkakimhbbaa
open Go.RowKit

theorem leading_any (x : Nat) (w : World) (h0 : x ≠ 0) (h1 : x < 18446744073709551616) :
    ∃ s : Nat, s ≤ 63 ∧ 9223372036854775808 ≤ x * 2 ^ s ∧ x * 2 ^ s < 18446744073709551616 ∧
    Calls Try.prog 49 #[.int .u64 x] w fun e w' => e = .returned (.int .i64 s) ∧ w = w' := by
  obtain ⟨k, e, l, u⟩ := bitLen_top 64 x h1 (by omega) h0
  have hk : k ≤ 63 := by
    rcases Nat.lt_or_ge 63 k with h | h
    · have : 2 ^ 64 ≤ 2 ^ k := Nat.pow_le_pow_right (by decide) h
      omega
    · exact h
  obtain ⟨s, hs⟩ : ∃ s, s + k = 63 := ⟨63 - k, by omega⟩
  have hp : 2 ^ k * 2 ^ s = 9223372036854775808 := by rw [← Nat.pow_add, Nat.add_comm, hs]
  have hp' : 2 ^ (k + 1) * 2 ^ s = 18446744073709551616 := by rw [← Nat.pow_add, show k + 1 + s = 64 by omega]
  refine ⟨s, by omega, by rw [← hp]; exact Nat.mul_le_mul_right _ l, by rw [← hp']; exact Nat.mul_lt_mul_of_pos_right u (Nat.two_pow_pos s), ?_⟩
  have c := fun W => len64_any x W (by omega) (by omega)
  rw [Int.toNat_natCast, e] at c
  have C := Lib.hid c
  clear c e l u hp hp' h0 h1
  go_enter Try.func49, Try.ntmps49
  go_wp2_with (go_at_call 51; refine (C.out _).mono ?_; rintro e w' ⟨rfl, rfl⟩)
  go_ret
  refine ⟨congrArg Ending.returned (congrArg (Value.int IntKind.i64) ?_), rfl⟩
  omega

theorem div64_small (lo y : Nat) (hlo : lo < 18446744073709551616) (hy : y < 18446744073709551616) (h0 : 0 < y) (w : World) :
    Calls Try.prog 46 #[.int .u64 0, .int .u64 lo, .int .u64 y] w fun e w' => (∃ r : Int, e = .returned (.tuple #[.int .u64 ((lo / y : Nat) : Int), .int .u64 r])) ∧ ∃ n, w' = w.drewN n := by
  have hy0 : ((y : Int) == 0) = false := by simp; omega
  have hy1 : decide ((y : Int) ≤ 0) = false := by simp; omega
  have e1 : IntKind.u64.wrap ((lo : Int) / (y : Int)) = ((lo / y : Nat) : Int) := by
    rw [← Int.natCast_ediv]
    exact M64.wrapN _ (Nat.lt_of_le_of_lt (Nat.div_le_self _ _) hlo)
  generalize lo / y = q at *
  go_enter Try.func46, Try.ntmps46
  go_wp2
  go_quiet (fail)
  go_wp2
  go_ret2
  exact ⟨⟨_, rfl⟩, _, rfl⟩

/-- What holds of a guess of a digit, and once it fits. -/
def DivInv (U d Y y1 q r : Nat) : Prop := q * y1 + r = U ∧ U * 4294967296 + d < (q + 1) * Y ∧ r < 4294967296 ∧ q ≤ 4294967297
def DivEnd (U d Y q : Nat) : Prop := q * Y ≤ U * 4294967296 + d ∧ U * 4294967296 + d < (q + 1) * Y ∧ q < 4294967296
theorem DivEnd.of_break (U d Y y1 y0 q r : Nat) (hy : Y = y1 * 4294967296 + y0) (h0 : y0 < 4294967296) (hU : U < Y) (hd : d < 4294967296) (e : q * y1 + r = U) (hq : q ≤ 4294967296) (hr : 4294967296 ≤ r)
    (k : U * 4294967296 + d < (q + 1) * Y) : DivEnd U d Y q := by
  have h := DM.fits_break U d Y y1 y0 q r hy h0 e hq hr
  exact ⟨h, k, (DM.digit U d Y q hU hd h k).2.1⟩
def quoW (hi lo y : Nat) : Nat := (hi * 18446744073709551616 + lo) / y

theorem two_pow_cast (s : Nat) : ((2 ^ s : Nat) : Int) = (2 : Int) ^ s := by simp
theorem pow_wrap (y s : Nat) (h : y * 2 ^ s < 18446744073709551616) : IntKind.u64.wrap ((y : Int) * 2 ^ s) = ((y * 2 ^ s : Nat) : Int) := by
  rw [← two_pow_cast, ← Int.natCast_mul]
  exact M64.wrapN _ h
theorem pow_wrap_mod (y s : Nat) : IntKind.u64.wrap ((y : Int) * 2 ^ s) = ((y * 2 ^ s % 18446744073709551616 : Nat) : Int) := by
  rw [← two_pow_cast, ← Int.natCast_mul]
  exact M64.wrapM _
theorem or_wrap (hi lo y s : Nat) (hs : s ≤ 64) (hlo : lo < 18446744073709551616) (hh : hi < y) (u : y * 2 ^ s < 18446744073709551616) :
    bits BinOp.or IntKind.u64 (IntKind.u64.wrap ((hi : Int) * 2 ^ s)) ((lo : Int) / 2 ^ (64 - s)) = ((hi * 2 ^ s + lo / 2 ^ (64 - s) : Nat) : Int) := by
  have hl : hi * 2 ^ s < 18446744073709551616 := Nat.lt_of_le_of_lt (Nat.mul_le_mul_right _ (by omega : hi ≤ y)) u
  have h2 : lo / 2 ^ (64 - s) < 18446744073709551616 := Nat.lt_of_le_of_lt (Nat.div_le_self _ _) hlo
  rw [pow_wrap hi s hl, ← two_pow_cast, ← Int.natCast_ediv, ← DM.or_add hi lo s hs hlo]
  exact bits_or_u64_nat _ _ hl h2

theorem ret_two_u64 {a b r : Int} (h : a = b) : Ending.returned (.tuple #[.int .u64 a, .int .u64 r]) = .returned (.tuple #[.int .u64 b, .int .u64 r]) := by rw [h]

theorem wrap_left (U d q Y : Nat) (h : q * Y ≤ U * 4294967296 + d) (hl : U * 4294967296 + d - q * Y < 18446744073709551616) :
    IntKind.u64.wrap (IntKind.u64.wrap (IntKind.u64.wrap ((U : Int) * 4294967296) + (d : Int)) - IntKind.u64.wrap ((q : Int) * (Y : Int))) = ((U * 4294967296 + d - q * Y : Nat) : Int) := by
  rw [← Int.natCast_mul]
  generalize q * Y = m at *
  simp only [IntKind.wrap_u64]
  omega

set_option maxRecDepth 20000 in
set_option maxHeartbeats 4000000 in
theorem div64_great (hi lo y : Nat) (hlo : lo < 18446744073709551616) (hy : y < 18446744073709551616) (hh : hi < y) (h0 : hi ≠ 0) (w : World) :
    Calls Try.prog 46 #[.int .u64 hi, .int .u64 lo, .int .u64 y] w fun e w' => (∃ r : Int, e = .returned (.tuple #[.int .u64 (quoW hi lo y : Int), .int .u64 r])) ∧ ∃ n, w' = w.drewN n := by
  have hy0 : ((y : Int) == 0) = false := by simp; omega
  have hi0 : ((hi : Int) == 0) = false := by simp; omega
  have hy1 : decide ((y : Int) ≤ hi) = false := by simp; omega
  obtain ⟨s, hs, l, u, c⟩ := leading_any y w (by omega) hy
  have C := Lib.hid c
  clear c
  have e1 : IntKind.u64.wrap ((y : Int) * 2 ^ s) = ((y * 2 ^ s : Nat) : Int) := pow_wrap y s u
  have e4 : bits BinOp.or IntKind.u64 (IntKind.u64.wrap ((hi : Int) * 2 ^ s)) ((lo : Int) / 2 ^ (64 - s)) = ((hi * 2 ^ s + lo / 2 ^ (64 - s) : Nat) : Int) := or_wrap hi lo y s (by omega) hlo hh u
  have e5 : IntKind.u64.wrap ((lo : Int) * 2 ^ s) = ((lo * 2 ^ s % 18446744073709551616 : Nat) : Int) := pow_wrap_mod lo s
  have hU := DM.high_lt hi lo y s (by omega) hlo hh
  have hP := DM.shifted hi lo s (by omega)
  have hL : lo * 2 ^ s % 18446744073709551616 < 18446744073709551616 := Nat.mod_lt _ (by omega)
  have hQ : (hi * 18446744073709551616 + lo) * 2 ^ s / (y * 2 ^ s) = quoW hi lo y := Nat.mul_div_mul_right _ _ (Nat.two_pow_pos s)
  rw [← hP] at hQ
  rw [← Nat.add_mul] at hQ
  clear hP
  generalize quoW hi lo y = R at *
  generalize y * 2 ^ s = Y at *
  generalize hi * 2 ^ s + lo / 2 ^ (64 - s) = U at *
  generalize lo * 2 ^ s % 18446744073709551616 = L at *
  have e2 : (Y : Int) / 4294967296 = ((Y / 4294967296 : Nat) : Int) := by omega
  have e3 := M64.maskN Y u
  have e6 : (L : Int) / 4294967296 = ((L / 4294967296 : Nat) : Int) := by omega
  have e7 := M64.maskN L hL
  have hy1p : 2147483648 ≤ Y / 4294967296 := by omega
  have hy1l : Y / 4294967296 < 4294967296 := by omega
  have hy0l : Y % 4294967296 < 4294967296 := by omega
  have hd1 : L / 4294967296 < 4294967296 := by omega
  have hd0 : L % 4294967296 < 4294967296 := by omega
  have hYe : Y = Y / 4294967296 * 4294967296 + Y % 4294967296 := by omega
  have hLe : L = L / 4294967296 * 4294967296 + L % 4294967296 := by omega
  generalize Y / 4294967296 = y1 at *
  generalize Y % 4294967296 = y0 at *
  generalize L / 4294967296 = d1 at *
  generalize L % 4294967296 = d0 at *
  have HQ := Lib.hid hQ
  have HYe := Lib.hid hYe
  have HLe := Lib.hid hLe
  clear hQ hYe hLe
  obtain ⟨qe, rl, ql, qu⟩ := DM.start U d1 Y y1 y0 HYe.out hy0l hy1p hU hd1
  have e8 : IntKind.u64.wrap ((U : Int) / (y1 : Int)) = ((U / y1 : Nat) : Int) := by rw [← Int.natCast_ediv]; exact M64.wrapN _ (by omega)
  have e9 : IntKind.u64.wrap (((U / y1 : Nat) : Int) * (y1 : Int)) = ((U / y1 * y1 : Nat) : Int) := by rw [← Int.natCast_mul]; exact M64.wrapN _ (by omega)
  have e10 : (U : Int) - ((U / y1 * y1 : Nat) : Int) = ((U % y1 : Nat) : Int) := by omega
  have hm : U / y1 * y1 ≤ U := by omega
  have Hqe := Lib.hid qe
  have Hqu := Lib.hid qu
  clear qe qu
  obtain ⟨m, hme⟩ : ∃ m, U / y1 * y1 = m := ⟨_, rfl⟩
  rw [hme] at e9 e10 hm
  clear hme
  generalize U / y1 = q at *
  generalize U % y1 = r at *
  go_enter Try.func46, Try.ntmps46
  go_wp2_with fail
  refine C.out.mono ?_
  rintro e w' ⟨rfl, rfl⟩
  have HI : DivInv U d1 Y y1 q r := ⟨Hqe.out, Hqu.out, by omega, ql⟩
  clear Hqe Hqu
  go_upto_block 0 with (fail)
  go_cut [15, 16] (fun s15 s16 wc => w = wc ∧ ∃ (q : Nat) (r : Int), s15 = .int .u64 q ∧ s16 = .int .u64 r ∧ DivEnd U d1 Y q)
  case first =>
    clear e1 e2 e3 e4 e5 e6 e7 e8 e9 e10 hm
    go_wp2_with fail
    go_loop [15, 16] (fun a b => ∃ q r : Nat, a = .int .u64 q ∧ b = .int .u64 r ∧ DivInv U d1 Y y1 q r) (fun a _ => (intOf a).toNat)
    case atStart => exact ⟨q, r, rfl, rfl, HI⟩
    case round =>
      obtain ⟨q, r, rfl, rfl, HJ⟩ := hrel
      obtain ⟨hE, hU', hr, hq⟩ := HJ
      have HE := Lib.hid hE
      have HU := Lib.hid hU'
      clear hE hU'
      by_cases hb : 4294967296 ≤ q
      · obtain ⟨g1, g2⟩ := DM.too_great U d1 Y y1 y0 q r HYe.out hU hd1 HE.out (.inl hb)
        have hbI : decide ((4294967296 : Int) ≤ (q : Int)) = true := by simp; omega
        have HE' : Hid ((q - 1) * y1 + (r + y1) = U) := by have := HE.out; rw [Nat.sub_mul, Nat.one_mul]; have : y1 ≤ q * y1 := Nat.le_mul_of_pos_left _ g1; show _ = _; omega
        have HU' : Hid (U * 4294967296 + d1 < (q - 1 + 1) * Y) := by rw [Nat.sub_add_cancel g1]; exact g2
        clear g2 HE HU
        by_cases hk : 4294967296 ≤ r + y1
        · have hkI : decide ((4294967296 : Int) ≤ (r : Int) + (y1 : Int)) = true := by simp; omega
          go_wp2_with fail
          go_meet
          case rel => exact ⟨rfl, q - 1, _, by go_num, rfl, DivEnd.of_break U d1 Y y1 y0 (q - 1) (r + y1) HYe.out hy0l hU hd1 HE'.out (by omega) hk HU'.out⟩
        · have hkI : decide ((4294967296 : Int) ≤ (r : Int) + (y1 : Int)) = false := by simp; omega
          go_wp2_with fail
          exact ⟨⟨q - 1, r + y1, by go_num, by go_num, HE'.out, HU'.out, by omega, by omega⟩, by simp [intOf]; omega⟩
      · have hbI : decide ((4294967296 : Int) ≤ (q : Int)) = false := by simp; omega
        have hmul : q * y0 < 18446744073709551616 := by
          have : q * y0 ≤ 4294967295 * 4294967295 := Nat.mul_le_mul (by omega) (by omega)
          omega
        have em : IntKind.u64.wrap ((q : Int) * (y0 : Int)) = ((q * y0 : Nat) : Int) := by rw [← Int.natCast_mul]; exact M64.wrapN _ hmul
        by_cases ht : 4294967296 * r + d1 < q * y0
        · obtain ⟨g1, g2⟩ := DM.too_great U d1 Y y1 y0 q r HYe.out hU hd1 HE.out (.inr ht)
          generalize q * y0 = qy at *
          have htI : decide ((4294967296 : Int) * (r : Int) + (d1 : Int) < (qy : Int)) = true := by simp; omega
          have HE' : Hid ((q - 1) * y1 + (r + y1) = U) := by have := HE.out; rw [Nat.sub_mul, Nat.one_mul]; have : y1 ≤ q * y1 := Nat.le_mul_of_pos_left _ g1; show _ = _; omega
          have HU' : Hid (U * 4294967296 + d1 < (q - 1 + 1) * Y) := by rw [Nat.sub_add_cancel g1]; exact g2
          clear g2 HE HU
          by_cases hk : 4294967296 ≤ r + y1
          · have hkI : decide ((4294967296 : Int) ≤ (r : Int) + (y1 : Int)) = true := by simp; omega
            go_wp2_with fail
            go_meet
            case rel => exact ⟨rfl, q - 1, _, by go_num, rfl, DivEnd.of_break U d1 Y y1 y0 (q - 1) (r + y1) HYe.out hy0l hU hd1 HE'.out (by omega) hk HU'.out⟩
          · have hkI : decide ((4294967296 : Int) ≤ (r : Int) + (y1 : Int)) = false := by simp; omega
            go_wp2_with fail
            exact ⟨⟨q - 1, r + y1, by go_num, by go_num, HE'.out, HU'.out, by omega, by omega⟩, by simp [intOf]; omega⟩
        · have g := Lib.hid (DM.fits_test U d1 Y y1 y0 q r HYe.out HE.out (by omega))
          generalize q * y0 = qy at *
          have htI : decide ((4294967296 : Int) * (r : Int) + (d1 : Int) < (qy : Int)) = false := by simp; omega
          go_wp2_with fail
          go_meet
          case rel => exact ⟨rfl, q, _, rfl, rfl, g.out, HU.out, by omega⟩
  case rest =>
    obtain ⟨rfl, q1, r1, rfl, rfl, Hq1⟩ := hcut
    have q1l : q1 < 4294967296 := Hq1.2.2
    have e11 : IntKind.u64.wrap (IntKind.u64.wrap (IntKind.u64.wrap ((U : Int) * 4294967296) + (d1 : Int)) - IntKind.u64.wrap ((q1 : Int) * (Y : Int))) = ((U * 4294967296 + d1 - q1 * Y : Nat) : Int) := wrap_left U d1 q1 Y Hq1.1 (Nat.lt_trans (DM.digit U d1 Y q1 hU hd1 Hq1.1 Hq1.2.1).2.2 u)
    have hV : U * 4294967296 + d1 - q1 * Y < Y := (DM.digit U d1 Y q1 hU hd1 Hq1.1 Hq1.2.1).2.2
    have HV : ∀ q0, DivEnd (U * 4294967296 + d1 - q1 * Y) d0 Y q0 → q1 * 4294967296 + q0 = R := by
      intro q0 h0
      rw [← HQ.out, HLe.out]
      have h := DM.both U d1 d0 Y q1 q0 (by omega) Hq1.1 (DM.digit _ d0 Y q0 hV hd0 h0.1 h0.2.1).1
      exact h.trans (DM.join U d1 d0 Y)
    have HV' := Lib.hid HV
    clear HV
    generalize U * 4294967296 + d1 - q1 * Y = V at *
    obtain ⟨qe, rl', ql', qu⟩ := DM.start V d0 Y y1 y0 HYe.out hy0l hy1p hV hd0
    have e12 : IntKind.u64.wrap ((V : Int) / (y1 : Int)) = ((V / y1 : Nat) : Int) := by rw [← Int.natCast_ediv]; exact M64.wrapN _ (by omega)
    have e13 : IntKind.u64.wrap (((V / y1 : Nat) : Int) * (y1 : Int)) = ((V / y1 * y1 : Nat) : Int) := by rw [← Int.natCast_mul]; exact M64.wrapN _ (by omega)
    have e14 : (V : Int) - ((V / y1 * y1 : Nat) : Int) = ((V % y1 : Nat) : Int) := by omega
    have hm' : V / y1 * y1 ≤ V := by omega
    have HI' : DivInv V d0 Y y1 (V / y1) (V % y1) := ⟨qe, qu, by omega, ql'⟩
    clear qe qu
    obtain ⟨m', hme⟩ : ∃ m', V / y1 * y1 = m' := ⟨_, rfl⟩
    rw [hme] at e13 e14 hm'
    clear hme
    generalize V / y1 = q' at *
    generalize V % y1 = r' at *
    clear e1 e2 e3 e4 e5 e6 e7 e8 e9 e10 hm HI rl ql
    have hy1n : ((y1 : Int) == 0) = false := by simp; omega
    go_upto_block 2 with (fail)
    go_cut [18, 16] (fun s18 s16 wc => w = wc ∧ ∃ (q : Nat) (r : Int), s18 = .int .u64 q ∧ s16 = .int .u64 r ∧ DivEnd V d0 Y q)
    case first =>
      clear e11 e12 e13 e14 hm'
      go_wp2_with fail
      go_loop [18, 16] (fun a b => ∃ q r : Nat, a = .int .u64 q ∧ b = .int .u64 r ∧ DivInv V d0 Y y1 q r) (fun a _ => (intOf a).toNat)
      case atStart => exact ⟨q', r', rfl, rfl, HI'⟩
      case round =>
        obtain ⟨q, r, rfl, rfl, HJ⟩ := hrel
        obtain ⟨hE, hU', hr, hq⟩ := HJ
        have HE := Lib.hid hE
        have HU := Lib.hid hU'
        clear hE hU'
        by_cases hb : 4294967296 ≤ q
        · obtain ⟨g1, g2⟩ := DM.too_great V d0 Y y1 y0 q r HYe.out hV hd0 HE.out (.inl hb)
          have hbI : decide ((4294967296 : Int) ≤ (q : Int)) = true := by simp; omega
          have HE' : Hid ((q - 1) * y1 + (r + y1) = V) := by have := HE.out; rw [Nat.sub_mul, Nat.one_mul]; have : y1 ≤ q * y1 := Nat.le_mul_of_pos_left _ g1; show _ = _; omega
          have HU' : Hid (V * 4294967296 + d0 < (q - 1 + 1) * Y) := by rw [Nat.sub_add_cancel g1]; exact g2
          clear g2 HE HU
          by_cases hk : 4294967296 ≤ r + y1
          · have hkI : decide ((4294967296 : Int) ≤ (r : Int) + (y1 : Int)) = true := by simp; omega
            go_wp2_with fail
            go_meet
            case rel => exact ⟨rfl, q - 1, _, by go_num, rfl, DivEnd.of_break V d0 Y y1 y0 (q - 1) (r + y1) HYe.out hy0l hV hd0 HE'.out (by omega) hk HU'.out⟩
          · have hkI : decide ((4294967296 : Int) ≤ (r : Int) + (y1 : Int)) = false := by simp; omega
            go_wp2_with fail
            exact ⟨⟨q - 1, r + y1, by go_num, by go_num, HE'.out, HU'.out, by omega, by omega⟩, by simp [intOf]; omega⟩
        · have hbI : decide ((4294967296 : Int) ≤ (q : Int)) = false := by simp; omega
          have hmul : q * y0 < 18446744073709551616 := by
            have : q * y0 ≤ 4294967295 * 4294967295 := Nat.mul_le_mul (by omega) (by omega)
            omega
          have em : IntKind.u64.wrap ((q : Int) * (y0 : Int)) = ((q * y0 : Nat) : Int) := by rw [← Int.natCast_mul]; exact M64.wrapN _ hmul
          by_cases ht : 4294967296 * r + d0 < q * y0
          · obtain ⟨g1, g2⟩ := DM.too_great V d0 Y y1 y0 q r HYe.out hV hd0 HE.out (.inr ht)
            generalize q * y0 = qy at *
            have htI : decide ((4294967296 : Int) * (r : Int) + (d0 : Int) < (qy : Int)) = true := by simp; omega
            have HE' : Hid ((q - 1) * y1 + (r + y1) = V) := by have := HE.out; rw [Nat.sub_mul, Nat.one_mul]; have : y1 ≤ q * y1 := Nat.le_mul_of_pos_left _ g1; show _ = _; omega
            have HU' : Hid (V * 4294967296 + d0 < (q - 1 + 1) * Y) := by rw [Nat.sub_add_cancel g1]; exact g2
            clear g2 HE HU
            by_cases hk : 4294967296 ≤ r + y1
            · have hkI : decide ((4294967296 : Int) ≤ (r : Int) + (y1 : Int)) = true := by simp; omega
              go_wp2_with fail
              go_meet
              case rel => exact ⟨rfl, q - 1, _, by go_num, rfl, DivEnd.of_break V d0 Y y1 y0 (q - 1) (r + y1) HYe.out hy0l hV hd0 HE'.out (by omega) hk HU'.out⟩
            · have hkI : decide ((4294967296 : Int) ≤ (r : Int) + (y1 : Int)) = false := by simp; omega
              go_wp2_with fail
              exact ⟨⟨q - 1, r + y1, by go_num, by go_num, HE'.out, HU'.out, by omega, by omega⟩, by simp [intOf]; omega⟩
          · have g := Lib.hid (DM.fits_test V d0 Y y1 y0 q r HYe.out HE.out (by omega))
            generalize q * y0 = qy at *
            have htI : decide ((4294967296 : Int) * (r : Int) + (d0 : Int) < (qy : Int)) = false := by simp; omega
            go_wp2_with fail
            go_meet
            case rel => exact ⟨rfl, q, _, rfl, rfl, g.out, HU.out, by omega⟩
    case rest =>
      obtain ⟨rfl, q0, r0, rfl, rfl, Hq0⟩ := hcut
      have q0l : q0 < 4294967296 := Hq0.2.2
      clear e11 e12 e13 e14 hm'
      go_wp2
      go_ret2
      refine ⟨⟨_, ret_two_u64 ?_⟩, 0, rfl⟩
      have := HV'.out q0 Hq0
      omega

end Go.Proofs.Ytfjepkakimhbbaa
