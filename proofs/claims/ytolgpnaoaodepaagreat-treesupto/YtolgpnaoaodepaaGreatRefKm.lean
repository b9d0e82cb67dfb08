/- The walk of Well, of leaves. -/
import Derived.Test.YtolgpnaoaodepaaGreatRefGm
namespace Go.Proofs.YtolgpnaoaodepaaGreat
open Go.RowKit
end Go.Proofs.YtolgpnaoaodepaaGreat
/- The walk of Well, of what is no leaf. -/
namespace Go.Proofs.YtolgpnaoaodepaaGreat
open Go.RowKit
end Go.Proofs.YtolgpnaoaodepaaGreat
/- The walk of changes, written. -/
namespace Go.Proofs.YtolgpnaoaodepaaGreat
open Go.RowKit
end Go.Proofs.YtolgpnaoaodepaaGreat
/- The walk of Page, of branches. -/
namespace Go.Proofs.YtolgpnaoaodepaaGreat
open Go.RowKit
end Go.Proofs.YtolgpnaoaodepaaGreat
