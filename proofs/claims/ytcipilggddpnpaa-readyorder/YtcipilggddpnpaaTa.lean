/-
  timers.Queue: what it is in memory; Now, Worst, byTime, Next, Cancel.
-/
import Derived.Test.YtcipilggddpnpaaQf
namespace Go.Proofs.Ytcipilggddpnpaa
open Go.RowKit Go.Sort Go.Shelf Go.Maps
set_option linter.unusedVariables false
set_option linter.unusedSimpArgs false

end Go.Proofs.Ytcipilggddpnpaa
