
/- Contracts: the reference's Start, Index, Current, End, Len, New. -/
import Derived.Test.YtmfnfinbkdemkaaGreatGE
namespace Go.Proofs.YtmfnfinbkdemkaaGreat
open Go.RowKit Go.Lib

end Go.Proofs.YtmfnfinbkdemkaaGreat
