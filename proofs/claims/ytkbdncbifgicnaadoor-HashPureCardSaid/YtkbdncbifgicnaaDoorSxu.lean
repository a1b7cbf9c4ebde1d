/- Contracts of packages uint256 and muldiv over this translation, as the writer of conditions takes them. -/
import Derived.Test.YtkbdncbifgicnaaDoorMx
import Derived.Test.YtkbdncbifgicnaaDoorMd
import Derived.Test.YtkbdncbifgicnaaDoorMu
namespace Go.Proofs.YtkbdncbifgicnaaDoor
open Go.RowKit Sx
set_option maxRecDepth 100000

end Go.Proofs.YtkbdncbifgicnaaDoor

