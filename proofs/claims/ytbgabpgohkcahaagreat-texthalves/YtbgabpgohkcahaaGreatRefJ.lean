import Derived.Test.YtbgabpgohkcahaaGreatRefClsJ
import Derived.Test.YtbgabpgohkcahaaGreatTxtJ
import Derived.Test.YtbgabpgohkcahaaGreatIsJ
/- Contracts of the reference's faces: each returns what package word's own does; the world has at most drawn. -/
namespace Go.Proofs.YtbgabpgohkcahaaGreat.W
open Go.ChangeShapes Go.WideShapes Go.RowKit

end Go.Proofs.YtbgabpgohkcahaaGreat.W
