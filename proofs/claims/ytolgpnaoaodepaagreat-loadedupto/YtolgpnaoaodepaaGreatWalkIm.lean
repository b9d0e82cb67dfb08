import Derived.Test.YtolgpnaoaodepaaGreatRtAm
namespace Go.Proofs.YtolgpnaoaodepaaGreat
open Go.RowKit
end Go.Proofs.YtolgpnaoaodepaaGreat
