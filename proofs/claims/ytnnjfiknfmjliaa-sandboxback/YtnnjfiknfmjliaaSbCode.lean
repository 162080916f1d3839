/- The contracts of the program (sandbox) that the walks want: sbFlags_any, sbAll_any, sbPopup_any, sbWords_any. -/
import Derived.Test.YtnnjfiknfmjliaaSbCode4
import Derived.Test.YtnnjfiknfmjliaaSbSeen
