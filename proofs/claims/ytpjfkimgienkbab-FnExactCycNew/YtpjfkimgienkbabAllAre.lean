/-
  wrdAllAre of the program: whether all numbers of a row are so, by a function that is handed in.
-/
import Derived.Test.YtpjfkimgienkbabProg
import Derived.Test.YtpjfkimgienkbabPureQ
import Derived.Test.YtpjfkimgienkbabWrd
import Derived.Test.YtpjfkimgienkbabIRow
namespace Go.Proofs.Ytpjfkimgienkbab
open Go.RowKit
set_option linter.unusedSimpArgs false
set_option linter.unusedVariables false

end Go.Proofs.Ytpjfkimgienkbab
