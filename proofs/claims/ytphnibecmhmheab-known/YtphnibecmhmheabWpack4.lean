import Derived.Test.YtphnibecmhmheabWpack3
namespace Go.Proofs.Ytphnibecmhmheab
open Go.RowKit

end Go.Proofs.Ytphnibecmhmheab
