/- The contracts of octet's and the document's functions of one byte. -/
import Derived.Test.YtnnjfiknfmjliaaProg
import Derived.Test.YtnnjfiknfmjliaaOctMath
import Derived.WalkKit
import Derived.Lib.Hide
namespace Go.Proofs.Ytnnjfiknfmjliaa
open Go.RowKit

end Go.Proofs.Ytnnjfiknfmjliaa
