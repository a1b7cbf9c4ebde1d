/- Contracts of packages uint256 and muldiv over this translation, as the writer of conditions takes them. -/
import Derived.Test.YtmgjlfcoikobaaaMx
import Derived.Test.YtmgjlfcoikobaaaMd
import Derived.Test.YtmgjlfcoikobaaaMu
namespace Go.Proofs.Ytmgjlfcoikobaaa
open Go.RowKit Sx
set_option maxRecDepth 100000

end Go.Proofs.Ytmgjlfcoikobaaa

