/-
  The walk of num.Sum over any slice of ints.
-/
import Derived.Test.YtfjepkakimhbbaaWide
import Derived.Test.YtfjepkakimhbbaaBase
namespace Go.Proofs.Ytfjepkakimhbbaa
open Go.RowKit

/-- What num.Sum answers, from a sum on: the sum, and the error. -/
def sumR : Int → List Int → Int × Int
  | acc, [] => (acc, 0)
  | acc, n :: l => if -9223372036854775808 ≤ acc + n ∧ acc + n ≤ 9223372036854775807 then sumR (acc + n) l else (0, 11)

theorem sumR_cons (zs : List Int) (k : Nat) (acc : Int) (hk : k < zs.length) :
    sumR acc (zs.drop k) = if -9223372036854775808 ≤ acc + zs.getD k 0 ∧ acc + zs.getD k 0 ≤ 9223372036854775807 then sumR (acc + zs.getD k 0) (zs.drop (k + 1)) else (0, 11) := by
  rw [List.drop_eq_getElem_cons hk, List.getD_eq_getElem?_getD, List.getElem?_eq_getElem hk]
  rfl

theorem ret_pair {r : Int × Int} {a b : Int} (h : r = (a, b)) : Ending.returned (.tuple #[.int .i64 a, .int .i64 b]) = .returned (.tuple #[.int .i64 r.1, .int .i64 r.2]) := by rw [h]

set_option maxHeartbeats 1000000 in
theorem sum_any (a : Option Addr) (zs : List Int) (cap : Nat) (w : World) (hr : RowI w a zs) (hz : ∀ z ∈ zs, Is64 z) (hl : zs.length ≤ 140737488355328) :
    Calls Try.prog 48 #[.slice a zs.length cap] w fun e w' => e = .returned (.tuple #[.int .i64 (sumR 0 zs).1, .int .i64 (sumR 0 zs).2]) ∧ w = w' := by
  obtain ⟨n, hn⟩ : ∃ n, zs.length = n := ⟨_, rfl⟩
  have Hn := Lib.hid hn
  rw [hn] at hl ⊢
  clear hn
  go_enter Try.func48, Try.ntmps48
  go_wp2
  go_loop [4, 10] (fun s i => ∃ (k : Nat) (acc : Int), k ≤ n ∧ -9223372036854775808 ≤ acc ∧ acc ≤ 9223372036854775807 ∧ i = .int .i64 k ∧ s = .int .i64 acc ∧ Hid (sumR 0 zs = sumR acc (zs.drop k))) (fun _ i => n - (intOf i).toNat)
  case atStart => exact ⟨0, 0, by omega, by omega, by omega, rfl, rfl, rfl⟩
  case round =>
    obtain ⟨k, acc, hk, h0, h1, rfl, rfl, HS⟩ := hrel
    by_cases hlt : k < n
    · have hlt' : k < zs.length := by rw [Hn.out]; exact hlt
      have hm := hz (zs.getD k 0) (by rw [List.getD_eq_getElem?_getD, List.getElem?_eq_getElem hlt']; exact List.getElem_mem _)
      obtain ⟨hm0, hm1⟩ := hm
      obtain ⟨g, o, rfl, hc⟩ : ∃ g o, a = some ⟨g, o, none⟩ ∧ w.cell? ⟨g, o + k, none⟩ = some (.int .i64 (zs.getD k 0)) := by
        rcases hr with h | ⟨g, o, ha, _, hc⟩
        · rw [h] at hlt'; exact absurd hlt' (by simp)
        · exact ⟨g, o, ha, hc k hlt'⟩
      have hs := sumR_cons zs k acc hlt'
      clear hr hlt' hz
      generalize zs.getD k 0 = m at *
      have Hs := Lib.hid (HS.out.trans hs)
      clear hs HS
      by_cases hf : -9223372036854775808 ≤ acc + m ∧ acc + m ≤ 9223372036854775807
      · have HS' : Hid (sumR 0 zs = sumR (acc + m) (zs.drop (k + 1))) := by
          have := Hs.out
          rw [if_pos hf] at this
          exact this
        obtain ⟨hf0, hf1⟩ := hf
        have ht : (!decide (m < 0) == decide (acc + m < acc)) = false := by
          have : decide (acc + m < acc) = decide (m < 0) := by rw [decide_eq_decide]; omega
          rw [this]; simp
        clear Hs
        go_wp2
        exact ⟨⟨k + 1, acc + m, by omega, hf0, hf1, by go_num, rfl, HS'⟩, by simp [intOf]; omega⟩
      · have HS' : Hid (sumR 0 zs = (0, 11)) := by
          have := Hs.out
          rw [if_neg hf] at this
          exact this
        clear Hs
        have ht : (!decide (m < 0) == decide (wrap64 (acc + m) < acc)) = true := by
          have : decide (wrap64 (acc + m) < acc) = !decide (m < 0) := by
            by_cases h : m < 0
            · simp [h, wrap64]; omega
            · simp [h, wrap64]; omega
          rw [this]; simp
        go_wp2
        go_ret2
        exact ⟨ret_pair HS'.out, rfl⟩
    · have e : zs.drop k = [] := List.drop_eq_nil_of_le (by rw [Hn.out]; omega)
      have HS' : Hid (sumR 0 zs = (acc, 0)) := by
        have := HS.out
        rw [e] at this
        exact this
      clear HS e hr hz
      go_wp2
      go_ret2
      exact ⟨ret_pair HS'.out, rfl⟩
end Go.Proofs.Ytfjepkakimhbbaa
