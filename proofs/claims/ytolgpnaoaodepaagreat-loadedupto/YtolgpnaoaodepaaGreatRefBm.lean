import Derived.Test.YtolgpnaoaodepaaGreatWalkIm
namespace Go.Proofs.YtolgpnaoaodepaaGreat
open Go.RowKit
end Go.Proofs.YtolgpnaoaodepaaGreat
