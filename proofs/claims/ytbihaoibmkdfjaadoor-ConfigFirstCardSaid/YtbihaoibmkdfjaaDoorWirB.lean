/-
  The document's own: a text's words.
-/
import Derived.Test.YtbihaoibmkdfjaaDoorWirA
namespace Go.Proofs.YtbihaoibmkdfjaaDoor
open Go.RowKit Go.Shelf
set_option linter.unusedVariables false

end Go.Proofs.YtbihaoibmkdfjaaDoor
