/-
  The document's own: a matcher of a word.
-/
import Derived.Test.YtbihaoibmkdfjaaDoorWirB
import Derived.Test.YtbihaoibmkdfjaaDoorRfM
import Derived.Laws.ResultCell
import Derived.BigRegion
import Derived.Deep.RegionHeld3
import Derived.Deep.DeepCutAuto
import Derived.Deep.CutBlock
import Derived.RegionTactic
import Derived.StillTailTactics
import Derived.Deep.RegionLaw
import Derived.Deep.QuietTactic
import Derived.BigQuiet
namespace Go.Proofs.YtbihaoibmkdfjaaDoor
open Go.RowKit Go.Shelf
set_option linter.unusedVariables false

end Go.Proofs.YtbihaoibmkdfjaaDoor
