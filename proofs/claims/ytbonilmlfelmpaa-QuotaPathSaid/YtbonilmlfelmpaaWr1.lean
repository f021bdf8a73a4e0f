/-
  What the document's own windows (regattaref04) give back: contracts.
-/
import Derived.Test.YtbonilmlfelmpaaWinA
namespace Go.Proofs.Ytbonilmlfelmpaa
open Go.RowKit

end Go.Proofs.Ytbonilmlfelmpaa
