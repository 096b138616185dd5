import Derived.Test.YtfoedamnlhkpiabWpack3
namespace Go.Proofs.Ytfoedamnlhkpiab
open Go.RowKit

end Go.Proofs.Ytfoedamnlhkpiab
