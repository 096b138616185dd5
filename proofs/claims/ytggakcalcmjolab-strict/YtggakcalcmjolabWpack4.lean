import Derived.Test.YtggakcalcmjolabWpack3
namespace Go.Proofs.Ytggakcalcmjolab
open Go.RowKit

end Go.Proofs.Ytggakcalcmjolab
