/- Contracts of packages uint256 and muldiv over this translation, as the writer of conditions takes them. -/
import Derived.Test.YtjjplhdcffjacaaMx
import Derived.Test.YtjjplhdcffjacaaMd
import Derived.Test.YtjjplhdcffjacaaMu
namespace Go.Proofs.Ytjjplhdcffjacaa
open Go.RowKit Sx
set_option maxRecDepth 100000

end Go.Proofs.Ytjjplhdcffjacaa

