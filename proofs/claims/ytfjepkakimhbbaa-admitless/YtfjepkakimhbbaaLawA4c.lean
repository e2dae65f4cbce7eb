/-
  The walk of AdmitLess, all ways together.
-/
import Derived.Test.YtfjepkakimhbbaaLawA4a
import Derived.Test.YtfjepkakimhbbaaLawA4b
namespace Go.Proofs.Ytfjepkakimhbbaa
open Go.RowKit Go.Sort Go.Shelf Go.Maps
set_option linter.unusedVariables false

theorem walk_AdmitLess (h : Bool) (c k : Int) (a : Option Addr) (len cap : Nat) (i d : Int) (w : World) (hc : -9223372036854775808 ≤ c ∧ c ≤ 9223372036854775807) (hk : -9223372036854775808 ≤ k ∧ k ≤ 9223372036854775807) (hL : ∃ L, ParIn w a len cap L) (hi : -9223372036854775808 ≤ i ∧ i ≤ 9223372036854775807) (hd : -9223372036854775808 ≤ d ∧ d ≤ 9223372036854775807) :
    Calls Try.prog 6 #[.agg #[.bool h, .int .i64 c, .int .i64 k], .slice a len cap, .agg #[.int .i64 i, .int .i64 d]] w fun E w' => E = .returned (.bool true) ∧ Below w.heap.size w w' := by
  obtain ⟨L, hP⟩ := hL
  by_cases h0 : len = 0
  · exact less_none h c k a len cap i d h0 awC9 w
  by_cases h1 : 70 < len
  · exact less_long h c k a len cap i d h1 awC9 w
  by_cases ht : testE h c k L = 0
  · by_cases h2 : i < 0
    · exact less_low h c k a len cap L i d hP.len_ h0 (by omega) ht h2 awC9 w hP.at_
    by_cases h3 : (len : Int) ≤ i
    · exact less_high h c k a len cap L i d hP.len_ h0 (by omega) ht (by omega) h3 awC9 w hP.at_
    obtain ⟨j, rfl⟩ := Int.eq_ofNat_of_zero_le (by omega : 0 ≤ i)
    have hp := hP.at_
    rcases hP.at_ with x | ⟨g, o, rfl, _, _⟩
    · exact absurd (hP.len_.symm.trans x) h0
    by_cases hcap : j + 1 < cap
    · by_cases d1 : 1 ≤ d
      · by_cases d2 : d < (L.getD j p0).1
        · exact less_mA h c k g o len cap L j d hP.len_ (by omega) (by omega) hP.cap_ hP.big hcap ht d1 d2 awC9 w hp
        · exact less_mC h c k g o len cap L j d hP.len_ (by omega) (by omega) hP.cap_ hP.big hcap ht d1 d2 awC9 w hp
      · exact less_mB h c k g o len cap L j d hP.len_ (by omega) (by omega) hP.cap_ hP.big hcap ht (by omega) awC9 w hp
    · have hcap' : cap = j + 1 := by have := hP.cap_; omega
      by_cases d1 : 1 ≤ d
      · by_cases d2 : d < (L.getD j p0).1
        · exact less_eA h c k g o len cap L j d hP.len_ (by omega) (by omega) hP.cap_ hP.big hcap' ht d1 d2 awC9 w hp
        · exact less_eC h c k g o len cap L j d hP.len_ (by omega) (by omega) hP.cap_ hP.big hcap' ht d1 d2 awC9 w hp
      · exact less_eB h c k g o len cap L j d hP.len_ (by omega) (by omega) hP.cap_ hP.big hcap' ht (by omega) awC9 w hp
  · exact less_t h c k a len cap L i d hP.len_ h0 (by omega) _ rfl ht awC9 w hP.at_
end Go.Proofs.Ytfjepkakimhbbaa
