/-
  timers.Queue: Due.
-/
import Derived.Test.YtcipilggddpnpaaTe
namespace Go.Proofs.Ytcipilggddpnpaa
open Go.RowKit Go.Shelf Go.Maps
set_option linter.unusedVariables false
set_option linter.unusedSimpArgs false

end Go.Proofs.Ytcipilggddpnpaa
