/-
  slices.SortFunc at entries, the order a method value bound to its receiver.
-/
import Derived.Test.YtcipilggddpnpaaSkI
namespace Go.Proofs
open Go.RowKit Go.Sort Go.Shelf Go.Maps
shelf_lay SlLaysF0.n15 Slsf 15 at Try as Ytcipilggddpnpaa.K.lays15
end Go.Proofs
namespace Go.Proofs.Ytcipilggddpnpaa.K
open Go.RowKit Go.Sort Go.Shelf Go.Maps
set_option linter.unusedVariables false
set_option linter.unusedSimpArgs false

theorem bitsLen_any (n : Nat) (hn : n ≤ 1099511627776) (w : World) : Calls Try.prog 64 #[.int .u64 n] w fun e w' => e = .returned (.int .i64 (bitsLen n : Nat)) ∧ w' = w := by
  have h := Any.bits_Len lays15.bits (n : Int) w (by omega) (by omega)
  rwa [Int.toNat_natCast, bitLen_eq _ (by omega)] at h

theorem bitsLen_small {n : Nat} (hn : n ≤ 1099511627776) : bitsLen n ≤ 62 := (bitsLen_le_iff n 62).2 (by omega)

set_option maxHeartbeats 2000000 in
/-- slices.SortFunc(row, h.compare). -/
theorem sortFunc_any (g : Nat) (rc : Value) (cf : Ent → Ent → Int) (rb cap : Nat) (w0 : World) (hC : CmpOk g rc cf rb w0) (hO : SWO (lo cf)) (n : Nat) (hsm : n ≤ 1099511627776) (d : Array Ent) (hn : d.size = n) (w : World) (hS : Srt w0 rb cap d w) :
    Calls Try.prog 75 #[.slice (some ⟨rb, 0, none⟩) n cap, .func (.func g) #[rc] #[]] w fun e w' => e = .returned (.tuple #[]) ∧ Srt w0 rb cap (Go.Sort.sort (lo cf) d) w' := by
  have mixed : Try.prog.follows .mixedOrders = true := by kernel_rfl
  have C0 : ∀ w, Hid (Calls Try.prog 64 #[.int .u64 n] w fun e w' => e = .returned (.int .i64 (bitsLen n : Nat)) ∧ w' = w) := fun w => bitsLen_any n hsm w
  have C1 : ∀ w, Srt w0 rb cap d w → Hid (Calls Try.prog 96 #[.slice (some ⟨rb, 0, none⟩) n cap, .int .i64 0, .int .i64 n, .int .i64 (bitsLen n : Nat), .func (.func g) #[rc] #[]] w fun e w' => e = .returned (.tuple #[]) ∧ Srt w0 rb cap (Go.Sort.sort (lo cf) d) w') := fun w h => by
    have hh := pdq_any g rc cf rb cap w0 hC hO n hsm (n + 1) 0 n (bitsLen n) d w (by omega) hn h (Nat.zero_le _) (Nat.le_refl _) (Nat.lt_of_le_of_lt (bitsLen_small hsm) (by decide)) (Or.inl rfl)
    have e : Go.Sort.sort (lo cf) d = pdq (lo cf) d 0 n (bitsLen n) true true := by unfold Go.Sort.sort; rw [hn]
    rw [e]
    exact hh
  have z1 : IntKind.u64.wrap (n : Int) = (n : Int) := by rw [IntKind.wrap_u64]; omega
  have H0 := Lib.hid hS
  generalize bitsLen n = bl at *
  clear hC hS hn
  go_enter Try.func75, Try.ntmps75
  go_wp2_with (first | (go_at_call 64; (with_reducible refine (C0 _).out.mono ?_); rintro e w' ⟨rfl, rfl⟩) | (go_at_call 96; (with_reducible refine (C1 _ H0.out).out.mono ?_); rintro e W2 ⟨rfl, h2⟩))
  go_end0
  exact ⟨rfl, h2⟩
end Go.Proofs.Ytcipilggddpnpaa.K
