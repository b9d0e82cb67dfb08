/- The walks of pages' commonFront and basement. -/
import Derived.Test.YtolgpnaoaodepaaGreatGenm
import Derived.Test.YtolgpnaoaodepaaGreatMathCm
import Derived.Lib.SmallJoins
namespace Go.Proofs.YtolgpnaoaodepaaGreat
open Go.RowKit

end Go.Proofs.YtolgpnaoaodepaaGreat
/- Plain mathematics of the program's reading: each reader tells what it has read and what is left, or gives up. -/
namespace Go.Proofs.YtolgpnaoaodepaaGreat.Pr
open Pg

end Go.Proofs.YtolgpnaoaodepaaGreat.Pr
namespace Go.Proofs.YtolgpnaoaodepaaGreat.Pr
open Pg
end Go.Proofs.YtolgpnaoaodepaaGreat.Pr
/- Plain mathematics of the program's reading of a leaf's first bytes. -/
namespace Go.Proofs.YtolgpnaoaodepaaGreat.Pr
open Pg
end Go.Proofs.YtolgpnaoaodepaaGreat.Pr
namespace Go.Proofs.YtolgpnaoaodepaaGreat.Pg
end Go.Proofs.YtolgpnaoaodepaaGreat.Pg
namespace Go.Proofs.YtolgpnaoaodepaaGreat.Pr
open Pg
end Go.Proofs.YtolgpnaoaodepaaGreat.Pr
/- A leafHead as it lies in memory; the walk of its write. -/
namespace Go.Proofs.YtolgpnaoaodepaaGreat
open Go.RowKit
theorem row_below {B C : Nat} {w w' : World} {v : Value} {T : TypeId} {s n : Nat} {xs : List Value} (h : w.ownsRow B T s v n xs) (hb : Below C w w') (hC : w.heap.size ≤ C) : w'.ownsRow B T s v n xs := by
  refine ⟨h.1, ?_⟩
  rcases h.2 with hn | ⟨g, cap, cur, rfl, hb', hg, r⟩
  · exact .inl hn
  · exact .inr ⟨g, cap, cur, rfl, hb', by rw [hb.block g (Nat.lt_of_lt_of_le (Array.getElem?_eq_some_iff.1 hg).1 hC)]; exact hg, r⟩
end Go.Proofs.YtolgpnaoaodepaaGreat
