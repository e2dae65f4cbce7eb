/-
  The walk of ratio.Sum over any slice of ints.
-/
import Derived.Test.YthindhclcdbnfaaRatW
namespace Go.Proofs.Ythindhclcdbnfaa
open Go.RowKit
set_option linter.unusedVariables false

/-- What ratio.Sum answers. -/
def rsumR (zs : List Int) : Int × Int := if zs.any (fun z => decide (z < 0)) then (0, 10) else sumR 0 zs

theorem any_drop (zs : List Int) (k : Nat) (hk : k < zs.length) : (zs.drop k).any (fun z => decide (z < 0)) = (decide (zs.getD k 0 < 0) || (zs.drop (k + 1)).any (fun z => decide (z < 0))) := by
  rw [List.drop_eq_getElem_cons hk, List.getD_eq_getElem?_getD, List.getElem?_eq_getElem hk, List.any_cons]
  rfl

set_option maxHeartbeats 1000000 in
theorem rsum_any (a : Option Addr) (zs : List Int) (cap : Nat) (w : World) (hr : RowI w a zs) (hz : ∀ z ∈ zs, Is64 z) (hl : zs.length ≤ 140737488355328) :
    Calls Try.prog 19 #[.slice a zs.length cap] w fun e w' => e = .returned (.tuple #[.int .i64 (rsumR zs).1, .int .i64 (rsumR zs).2]) ∧ w = w' := by
  have cS := Lib.hid (sum_any a zs cap w hr hz hl)
  obtain ⟨n, hn⟩ : ∃ n, zs.length = n := ⟨_, rfl⟩
  have Hn := Lib.hid hn
  rw [hn] at hl cS ⊢
  clear hn
  go_enter Try.func19, Try.ntmps19
  go_wp2
  go_loop [8] (fun i => ∃ (k : Nat), k ≤ n ∧ i = .int .i64 k ∧ Hid (zs.any (fun z => decide (z < 0)) = (zs.drop k).any (fun z => decide (z < 0)))) (fun i => n - (intOf i).toNat)
  case atStart => exact ⟨0, by omega, rfl, rfl⟩
  case round =>
    obtain ⟨k, hk, rfl, HS⟩ := hrel
    by_cases hlt : k < n
    · have hlt' : k < zs.length := by rw [Hn.out]; exact hlt
      obtain ⟨g, o, rfl, hc⟩ : ∃ g o, a = some ⟨g, o, none⟩ ∧ w.cell? ⟨g, o + k, none⟩ = some (.int .i64 (zs.getD k 0)) := by
        rcases hr with h | ⟨g, o, ha, _, hc⟩
        · rw [h] at hlt'; exact absurd hlt' (by simp)
        · exact ⟨g, o, ha, hc k hlt'⟩
      have hs := any_drop zs k hlt'
      clear hr hlt' hz
      generalize zs.getD k 0 = m at *
      have Hs := Lib.hid (HS.out.trans hs)
      clear hs HS
      by_cases hf : m < 0
      · have hf' : decide (m < 0) = true := by simpa using hf
        have HE : Hid (rsumR zs = (0, 10)) := by
          have := Hs.out
          rw [hf', Bool.true_or] at this
          exact if_pos this
        clear Hs
        go_wp2
        go_ret2
        exact ⟨ret_pair HE.out, rfl⟩
      · have hf' : decide (m < 0) = false := by simpa using hf
        have HS' : Hid (zs.any (fun z => decide (z < 0)) = (zs.drop (k + 1)).any (fun z => decide (z < 0))) := by
          have := Hs.out
          rw [hf', Bool.false_or] at this
          exact this
        clear Hs
        go_wp2
        exact ⟨⟨k + 1, by omega, by go_num, HS'⟩, by simp [intOf]; omega⟩
    · have e : zs.drop k = [] := List.drop_eq_nil_of_le (by rw [Hn.out]; omega)
      have HE : Hid (rsumR zs = sumR 0 zs) := by
        have := HS.out
        rw [e, List.any_nil] at this
        exact if_neg (by rw [this]; decide)
      clear HS e hr hz
      generalize sumR 0 zs = r at *
      go_wp2_with fail
      refine (Hid.out cS).mono ?_
      rintro e w' ⟨rfl, rfl⟩
      go_wp2
      go_ret2
      exact ⟨(congrArg (fun r : Int × Int => Ending.returned (.tuple #[.int .i64 r.1, .int .i64 r.2])) HE.out).symm, rfl⟩
end Go.Proofs.Ythindhclcdbnfaa
