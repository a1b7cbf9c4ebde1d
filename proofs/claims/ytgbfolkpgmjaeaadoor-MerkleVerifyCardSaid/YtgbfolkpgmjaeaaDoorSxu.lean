/- Contracts of packages uint256 and muldiv over this translation, as the writer of conditions takes them. -/
import Derived.Test.YtgbfolkpgmjaeaaDoorMx
import Derived.Test.YtgbfolkpgmjaeaaDoorMd
import Derived.Test.YtgbfolkpgmjaeaaDoorMu
namespace Go.Proofs.YtgbfolkpgmjaeaaDoor
open Go.RowKit Sx
set_option maxRecDepth 100000

end Go.Proofs.YtgbfolkpgmjaeaaDoor

