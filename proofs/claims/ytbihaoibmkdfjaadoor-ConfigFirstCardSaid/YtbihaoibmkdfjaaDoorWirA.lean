/-
  The document's own: digits as numbers.
-/
import Derived.Test.YtbihaoibmkdfjaaDoorWirZ
namespace Go.Proofs.YtbihaoibmkdfjaaDoor
open Go.RowKit Go.Shelf
set_option linter.unusedVariables false

end Go.Proofs.YtbihaoibmkdfjaaDoor
