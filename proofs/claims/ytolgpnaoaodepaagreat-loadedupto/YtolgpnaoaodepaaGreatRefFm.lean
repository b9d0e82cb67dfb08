import Derived.Test.YtolgpnaoaodepaaGreatRefBm
namespace Go.Proofs.YtolgpnaoaodepaaGreat
open Go.RowKit
end Go.Proofs.YtolgpnaoaodepaaGreat
