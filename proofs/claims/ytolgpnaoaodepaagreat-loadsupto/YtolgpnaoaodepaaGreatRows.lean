/-
  No cell of these rows narrows 'for every input' (looked for: loops, veiled, ifaces, maps, wideKeys, modest, calm, conditions, laid).
  DERIVED. THE GIVEN ROWS OF THIS SEAT. 7 by the template 'for every input the law returns true; each argument reads behind the call as it read before'; 0 by the template 'total and deterministic' (their statements: YtolgpnaoaodepaaGreatTotals.lean).
  GIVEN WITH THE SEED: the statements are not yours to turn. If you find one false, say at which input.
  Laid BY PROGRAM, IN A SANDBOX (cutbox-rows.mjs): the forced cells as the released guide's own fill.sh prints them over the translation f58261939511e4a6… (all of the seat's roots in one cut). By AI agents, Wed Nov 11 2026. No macro, syntax, notation, axiom, sorry.
-/
import Derived.Test.YtolgpnaoaodepaaGreatChecked
import GoSem.Claim
import GoSem.ClaimJoined
import GoSem.ClaimMapViews
import Derived.JoinedTies
import Derived.KernelRfl
namespace Go.Proofs.YtolgpnaoaodepaaGreat
/- THE CELL 'sum', in the pinned program and in every row, IS THE sha256 OF THE DUMP (.gsa) THAT YtolgpnaoaodepaaGreatProg.lean LOADS. Nothing in Lean hashes anything: it is a label: what it is worth is what the hold of that sum in a sandbox is worth. -/
noncomputable def Tryz.pinned : Pinned := { name := "ytolgpnaoaodepaagreat", sum := "f58261939511e4a64528440c67636a03ed0871f44f7a90c3d74dd4626a9ad1a7", checked := Tryz.checked }
namespace Rows
def none {H : Type} : Left H := { results := [], args := [] }

/-- 'siltlaw.Squeezes': WHATEVER THE INPUT: true; the input reads as it did. -/
def squeezesSpec : ChangeSpec := { name := "squeezes", fn := fun _ => fun
  | [d] => { results := [.lit (.bool true)], args := [d] }
  | _ => none }
def squeezesRow : OpenClaim := { program := "ytolgpnaoaodepaagreat", sum := "f58261939511e4a64528440c67636a03ed0871f44f7a90c3d74dd4626a9ad1a7", func := "silt/siltlaw.Squeezes", spec := "squeezes", inPlace := ["internal/bytealg.abigen_runtime_cmpstring", "slices.overlaps[silt/api.Item]", "slices.overlaps[silt/tree.part]", "(*internal/sync.Mutex).Lock", "internal/race.Disable", "sync/atomic.CompareAndSwapInt32", "internal/race.Enable", "internal/race.Acquire", "(*internal/sync.Mutex).lockSlow", "internal/sync.runtime_canSpin", "internal/sync.runtime_doSpin", "internal/sync.throw", "internal/sync.runtime_nanotime", "internal/sync.runtime_SemacquireMutex", "sync/atomic.AddInt32", "(*internal/sync.Mutex).Unlock", "internal/race.ReleaseMerge", "(*internal/sync.Mutex).unlockSlow", "internal/sync.fatal", "internal/sync.runtime_Semrelease"], unfollowed := true, recurses := true, apart := false }
def SqueezesSaid : Prop := squeezesRow.holds Tryz.pinned (OpenSpec.ofChange squeezesSpec)

/-- ITS FALSE NEIGHBOUR: 'it returns false'. Refute it at one input. -/
def squeezesWrong : ChangeSpec := { name := "squeezes", fn := fun _ => fun
  | [d] => { results := [.lit (.bool false)], args := [d] }
  | _ => none }
def SqueezesWrongFalsely : Prop := squeezesRow.holds Tryz.pinned (OpenSpec.ofChange squeezesWrong)

/-- 'siltlaw.Pages': WHATEVER THE INPUT: true; the input reads as it did. -/
def pagesSpec : ChangeSpec := { name := "pages", fn := fun _ => fun
  | [d] => { results := [.lit (.bool true)], args := [d] }
  | _ => none }
def pagesRow : OpenClaim := { program := "ytolgpnaoaodepaagreat", sum := "f58261939511e4a64528440c67636a03ed0871f44f7a90c3d74dd4626a9ad1a7", func := "silt/siltlaw.Pages", spec := "pages", inPlace := ["internal/bytealg.abigen_runtime_cmpstring", "slices.overlaps[silt/api.Item]", "slices.overlaps[silt/tree.part]", "(*internal/sync.Mutex).Lock", "internal/race.Disable", "sync/atomic.CompareAndSwapInt32", "internal/race.Enable", "internal/race.Acquire", "(*internal/sync.Mutex).lockSlow", "internal/sync.runtime_canSpin", "internal/sync.runtime_doSpin", "internal/sync.throw", "internal/sync.runtime_nanotime", "internal/sync.runtime_SemacquireMutex", "sync/atomic.AddInt32", "(*internal/sync.Mutex).Unlock", "internal/race.ReleaseMerge", "(*internal/sync.Mutex).unlockSlow", "internal/sync.fatal", "internal/sync.runtime_Semrelease"], unfollowed := true, recurses := true, apart := false }
def PagesSaid : Prop := pagesRow.holds Tryz.pinned (OpenSpec.ofChange pagesSpec)

/-- ITS FALSE NEIGHBOUR: 'it returns false'. Refute it at one input. -/
def pagesWrong : ChangeSpec := { name := "pages", fn := fun _ => fun
  | [d] => { results := [.lit (.bool false)], args := [d] }
  | _ => none }
def PagesWrongFalsely : Prop := pagesRow.holds Tryz.pinned (OpenSpec.ofChange pagesWrong)

/-- 'siltlaw.Trees': WHATEVER THE INPUT: true; the input reads as it did. -/
def treesSpec : ChangeSpec := { name := "trees", fn := fun _ => fun
  | [d] => { results := [.lit (.bool true)], args := [d] }
  | _ => none }
def treesRow : OpenClaim := { program := "ytolgpnaoaodepaagreat", sum := "f58261939511e4a64528440c67636a03ed0871f44f7a90c3d74dd4626a9ad1a7", func := "silt/siltlaw.Trees", spec := "trees", inPlace := ["internal/bytealg.abigen_runtime_cmpstring", "slices.overlaps[silt/api.Item]", "slices.overlaps[silt/tree.part]", "(*internal/sync.Mutex).Lock", "internal/race.Disable", "sync/atomic.CompareAndSwapInt32", "internal/race.Enable", "internal/race.Acquire", "(*internal/sync.Mutex).lockSlow", "internal/sync.runtime_canSpin", "internal/sync.runtime_doSpin", "internal/sync.throw", "internal/sync.runtime_nanotime", "internal/sync.runtime_SemacquireMutex", "sync/atomic.AddInt32", "(*internal/sync.Mutex).Unlock", "internal/race.ReleaseMerge", "(*internal/sync.Mutex).unlockSlow", "internal/sync.fatal", "internal/sync.runtime_Semrelease"], unfollowed := true, recurses := true, apart := false }
def TreesSaid : Prop := treesRow.holds Tryz.pinned (OpenSpec.ofChange treesSpec)

/-- ITS FALSE NEIGHBOUR: 'it returns false'. Refute it at one input. -/
def treesWrong : ChangeSpec := { name := "trees", fn := fun _ => fun
  | [d] => { results := [.lit (.bool false)], args := [d] }
  | _ => none }
def TreesWrongFalsely : Prop := treesRow.holds Tryz.pinned (OpenSpec.ofChange treesWrong)

/-- 'siltlaw.Loads': WHATEVER THE INPUT: true; the input reads as it did. -/
def loadsSpec : ChangeSpec := { name := "loads", fn := fun _ => fun
  | [d] => { results := [.lit (.bool true)], args := [d] }
  | _ => none }
def loadsRow : OpenClaim := { program := "ytolgpnaoaodepaagreat", sum := "f58261939511e4a64528440c67636a03ed0871f44f7a90c3d74dd4626a9ad1a7", func := "silt/siltlaw.Loads", spec := "loads", inPlace := ["internal/bytealg.abigen_runtime_cmpstring", "slices.overlaps[silt/api.Item]", "slices.overlaps[silt/tree.part]", "(*internal/sync.Mutex).Lock", "internal/race.Disable", "sync/atomic.CompareAndSwapInt32", "internal/race.Enable", "internal/race.Acquire", "(*internal/sync.Mutex).lockSlow", "internal/sync.runtime_canSpin", "internal/sync.runtime_doSpin", "internal/sync.throw", "internal/sync.runtime_nanotime", "internal/sync.runtime_SemacquireMutex", "sync/atomic.AddInt32", "(*internal/sync.Mutex).Unlock", "internal/race.ReleaseMerge", "(*internal/sync.Mutex).unlockSlow", "internal/sync.fatal", "internal/sync.runtime_Semrelease"], unfollowed := true, recurses := true, apart := false }
def LoadsSaid : Prop := loadsRow.holds Tryz.pinned (OpenSpec.ofChange loadsSpec)

/-- ITS FALSE NEIGHBOUR: 'it returns false'. Refute it at one input. -/
def loadsWrong : ChangeSpec := { name := "loads", fn := fun _ => fun
  | [d] => { results := [.lit (.bool false)], args := [d] }
  | _ => none }
def LoadsWrongFalsely : Prop := loadsRow.holds Tryz.pinned (OpenSpec.ofChange loadsWrong)

/-- 'siltkeep.Imaged': WHATEVER THE INPUT: true; the input reads as it did. -/
def imagedSpec : ChangeSpec := { name := "imaged", fn := fun _ => fun
  | [d1, d2] => { results := [.lit (.bool true)], args := [d1, d2] }
  | _ => none }
def imagedRow : OpenClaim := { program := "ytolgpnaoaodepaagreat", sum := "f58261939511e4a64528440c67636a03ed0871f44f7a90c3d74dd4626a9ad1a7", func := "silt/siltkeep.Imaged", spec := "imaged", inPlace := ["(*internal/sync.Mutex).Lock", "internal/race.Disable", "sync/atomic.CompareAndSwapInt32", "internal/race.Enable", "internal/race.Acquire", "(*internal/sync.Mutex).lockSlow", "internal/sync.runtime_canSpin", "internal/sync.runtime_doSpin", "internal/sync.throw", "internal/sync.runtime_nanotime", "internal/sync.runtime_SemacquireMutex", "sync/atomic.AddInt32", "(*internal/sync.Mutex).Unlock", "internal/race.ReleaseMerge", "(*internal/sync.Mutex).unlockSlow", "internal/sync.fatal", "internal/sync.runtime_Semrelease", "internal/bytealg.abigen_runtime_cmpstring", "slices.overlaps[silt/api.Item]", "slices.overlaps[silt/tree.part]"], unfollowed := true, recurses := true, apart := false }
def ImagedSaid : Prop := imagedRow.holds Tryz.pinned (OpenSpec.ofChange imagedSpec)

/-- ITS FALSE NEIGHBOUR: 'it returns false'. Refute it at one input. -/
def imagedWrong : ChangeSpec := { name := "imaged", fn := fun _ => fun
  | [d1, d2] => { results := [.lit (.bool false)], args := [d1, d2] }
  | _ => none }
def ImagedWrongFalsely : Prop := imagedRow.holds Tryz.pinned (OpenSpec.ofChange imagedWrong)

/-- 'siltkeep.Loaded': WHATEVER THE INPUT: true; the input reads as it did. -/
def loadedSpec : ChangeSpec := { name := "loaded", fn := fun _ => fun
  | [d1, d2, d3] => { results := [.lit (.bool true)], args := [d1, d2, d3] }
  | _ => none }
def loadedRow : OpenClaim := { program := "ytolgpnaoaodepaagreat", sum := "f58261939511e4a64528440c67636a03ed0871f44f7a90c3d74dd4626a9ad1a7", func := "silt/siltkeep.Loaded", spec := "loaded", inPlace := ["(*internal/sync.Mutex).Lock", "internal/race.Disable", "sync/atomic.CompareAndSwapInt32", "internal/race.Enable", "internal/race.Acquire", "(*internal/sync.Mutex).lockSlow", "internal/sync.runtime_canSpin", "internal/sync.runtime_doSpin", "internal/sync.throw", "internal/sync.runtime_nanotime", "internal/sync.runtime_SemacquireMutex", "sync/atomic.AddInt32", "(*internal/sync.Mutex).Unlock", "internal/race.ReleaseMerge", "(*internal/sync.Mutex).unlockSlow", "internal/sync.fatal", "internal/sync.runtime_Semrelease", "internal/bytealg.abigen_runtime_cmpstring", "slices.overlaps[silt/api.Item]", "slices.overlaps[silt/tree.part]"], unfollowed := true, recurses := true, apart := false }
def LoadedSaid : Prop := loadedRow.holds Tryz.pinned (OpenSpec.ofChange loadedSpec)

/-- ITS FALSE NEIGHBOUR: 'it returns false'. Refute it at one input. -/
def loadedWrong : ChangeSpec := { name := "loaded", fn := fun _ => fun
  | [d1, d2, d3] => { results := [.lit (.bool false)], args := [d1, d2, d3] }
  | _ => none }
def LoadedWrongFalsely : Prop := loadedRow.holds Tryz.pinned (OpenSpec.ofChange loadedWrong)

/-- 'siltlaw.All': WHATEVER THE INPUT: true; the input reads as it did. -/
def allSpec : ChangeSpec := { name := "all", fn := fun _ => fun
  | [d] => { results := [.lit (.bool true)], args := [d] }
  | _ => none }
def allRow : OpenClaim := { program := "ytolgpnaoaodepaagreat", sum := "f58261939511e4a64528440c67636a03ed0871f44f7a90c3d74dd4626a9ad1a7", func := "silt/siltlaw.All", spec := "all", inPlace := ["internal/bytealg.abigen_runtime_cmpstring", "slices.overlaps[silt/api.Item]", "slices.overlaps[silt/tree.part]", "(*internal/sync.Mutex).Lock", "internal/race.Disable", "sync/atomic.CompareAndSwapInt32", "internal/race.Enable", "internal/race.Acquire", "(*internal/sync.Mutex).lockSlow", "internal/sync.runtime_canSpin", "internal/sync.runtime_doSpin", "internal/sync.throw", "internal/sync.runtime_nanotime", "internal/sync.runtime_SemacquireMutex", "sync/atomic.AddInt32", "(*internal/sync.Mutex).Unlock", "internal/race.ReleaseMerge", "(*internal/sync.Mutex).unlockSlow", "internal/sync.fatal", "internal/sync.runtime_Semrelease"], unfollowed := true, recurses := true, apart := false }
def AllSaid : Prop := allRow.holds Tryz.pinned (OpenSpec.ofChange allSpec)

/-- ITS FALSE NEIGHBOUR: 'it returns false'. Refute it at one input. -/
def allWrong : ChangeSpec := { name := "all", fn := fun _ => fun
  | [d] => { results := [.lit (.bool false)], args := [d] }
  | _ => none }
def AllWrongFalsely : Prop := allRow.holds Tryz.pinned (OpenSpec.ofChange allWrong)

/- THE SECOND FORM. 'bulk': how many values and letters a reading holds, each counted each time it is reached (what is shared counts as often as it is met; a slice's spare places count too). A statement '..UptoSaid' is the law's where the arguments, and the package variables that the reading takes, are together of bulk at most 1048576: NARROWER than '..Said'. Prove '..Said' where nothing that the law and all that it calls make is longer than what came in: it says more and counts as full. Else prove '..UptoSaid'. A law counts once. -/
mutual
def uptoBulk {H : Type} : DataW H → Nat
  | .lit (.string bytes) => bytes.length + 1
  | .lit _ => 1
  | .nil => 1
  | .ptr d => uptoBulk d + 1
  | .slice elems spare => uptoBulkAll elems + uptoBulkAll spare + 1
  | .agg parts => uptoBulkAll parts + 1
  | .iface _ d => uptoBulk d + 1
  | .map entries => uptoBulkEntries entries + 1
  | .held _ => 1
def uptoBulkAll {H : Type} : List (DataW H) → Nat
  | [] => 0
  | d :: r => uptoBulk d + uptoBulkAll r
def uptoBulkEntries {H : Type} : List (Lit × DataW H) → Nat
  | [] => 0
  | x :: r => uptoBulkEntry x + uptoBulkEntries r
def uptoBulkEntry {H : Type} : Lit × DataW H → Nat
  | (.string bytes, d) => bytes.length + uptoBulk d + 1
  | (_, d) => uptoBulk d + 1
 end
def uptoSmall : (H : Type) → List (DataW H) → Bool := fun _ ds => decide (uptoBulkAll ds ≤ 1048576)
def OpenSpec.upto (s : _root_.Go.ChangeSpec) : _root_.Go.OpenSpec := { _root_.Go.OpenSpec.ofChange s with cond := some uptoSmall }

/-- 'siltlaw.Squeezes', WHERE WHAT IT READS IS OF BULK AT MOST 1048576: true; the input reads as it did. -/
def squeezesUptoRow : OpenClaim := { program := "ytolgpnaoaodepaagreat", sum := "f58261939511e4a64528440c67636a03ed0871f44f7a90c3d74dd4626a9ad1a7", func := "silt/siltlaw.Squeezes", spec := "squeezes", inPlace := ["internal/bytealg.abigen_runtime_cmpstring", "slices.overlaps[silt/api.Item]", "slices.overlaps[silt/tree.part]", "(*internal/sync.Mutex).Lock", "internal/race.Disable", "sync/atomic.CompareAndSwapInt32", "internal/race.Enable", "internal/race.Acquire", "(*internal/sync.Mutex).lockSlow", "internal/sync.runtime_canSpin", "internal/sync.runtime_doSpin", "internal/sync.throw", "internal/sync.runtime_nanotime", "internal/sync.runtime_SemacquireMutex", "sync/atomic.AddInt32", "(*internal/sync.Mutex).Unlock", "internal/race.ReleaseMerge", "(*internal/sync.Mutex).unlockSlow", "internal/sync.fatal", "internal/sync.runtime_Semrelease"], unfollowed := true, recurses := true, apart := false, narrowed := true }
def SqueezesUptoSaid : Prop := squeezesUptoRow.holds Tryz.pinned (OpenSpec.upto squeezesSpec)

/-- 'siltlaw.Pages', WHERE WHAT IT READS IS OF BULK AT MOST 1048576: true; the input reads as it did. -/
def pagesUptoRow : OpenClaim := { program := "ytolgpnaoaodepaagreat", sum := "f58261939511e4a64528440c67636a03ed0871f44f7a90c3d74dd4626a9ad1a7", func := "silt/siltlaw.Pages", spec := "pages", inPlace := ["internal/bytealg.abigen_runtime_cmpstring", "slices.overlaps[silt/api.Item]", "slices.overlaps[silt/tree.part]", "(*internal/sync.Mutex).Lock", "internal/race.Disable", "sync/atomic.CompareAndSwapInt32", "internal/race.Enable", "internal/race.Acquire", "(*internal/sync.Mutex).lockSlow", "internal/sync.runtime_canSpin", "internal/sync.runtime_doSpin", "internal/sync.throw", "internal/sync.runtime_nanotime", "internal/sync.runtime_SemacquireMutex", "sync/atomic.AddInt32", "(*internal/sync.Mutex).Unlock", "internal/race.ReleaseMerge", "(*internal/sync.Mutex).unlockSlow", "internal/sync.fatal", "internal/sync.runtime_Semrelease"], unfollowed := true, recurses := true, apart := false, narrowed := true }
def PagesUptoSaid : Prop := pagesUptoRow.holds Tryz.pinned (OpenSpec.upto pagesSpec)

/-- 'siltlaw.Trees', WHERE WHAT IT READS IS OF BULK AT MOST 1048576: true; the input reads as it did. -/
def treesUptoRow : OpenClaim := { program := "ytolgpnaoaodepaagreat", sum := "f58261939511e4a64528440c67636a03ed0871f44f7a90c3d74dd4626a9ad1a7", func := "silt/siltlaw.Trees", spec := "trees", inPlace := ["internal/bytealg.abigen_runtime_cmpstring", "slices.overlaps[silt/api.Item]", "slices.overlaps[silt/tree.part]", "(*internal/sync.Mutex).Lock", "internal/race.Disable", "sync/atomic.CompareAndSwapInt32", "internal/race.Enable", "internal/race.Acquire", "(*internal/sync.Mutex).lockSlow", "internal/sync.runtime_canSpin", "internal/sync.runtime_doSpin", "internal/sync.throw", "internal/sync.runtime_nanotime", "internal/sync.runtime_SemacquireMutex", "sync/atomic.AddInt32", "(*internal/sync.Mutex).Unlock", "internal/race.ReleaseMerge", "(*internal/sync.Mutex).unlockSlow", "internal/sync.fatal", "internal/sync.runtime_Semrelease"], unfollowed := true, recurses := true, apart := false, narrowed := true }
def TreesUptoSaid : Prop := treesUptoRow.holds Tryz.pinned (OpenSpec.upto treesSpec)

/-- 'siltlaw.Loads', WHERE WHAT IT READS IS OF BULK AT MOST 1048576: true; the input reads as it did. -/
def loadsUptoRow : OpenClaim := { program := "ytolgpnaoaodepaagreat", sum := "f58261939511e4a64528440c67636a03ed0871f44f7a90c3d74dd4626a9ad1a7", func := "silt/siltlaw.Loads", spec := "loads", inPlace := ["internal/bytealg.abigen_runtime_cmpstring", "slices.overlaps[silt/api.Item]", "slices.overlaps[silt/tree.part]", "(*internal/sync.Mutex).Lock", "internal/race.Disable", "sync/atomic.CompareAndSwapInt32", "internal/race.Enable", "internal/race.Acquire", "(*internal/sync.Mutex).lockSlow", "internal/sync.runtime_canSpin", "internal/sync.runtime_doSpin", "internal/sync.throw", "internal/sync.runtime_nanotime", "internal/sync.runtime_SemacquireMutex", "sync/atomic.AddInt32", "(*internal/sync.Mutex).Unlock", "internal/race.ReleaseMerge", "(*internal/sync.Mutex).unlockSlow", "internal/sync.fatal", "internal/sync.runtime_Semrelease"], unfollowed := true, recurses := true, apart := false, narrowed := true }
def LoadsUptoSaid : Prop := loadsUptoRow.holds Tryz.pinned (OpenSpec.upto loadsSpec)

/-- 'siltkeep.Imaged', WHERE WHAT IT READS IS OF BULK AT MOST 1048576: true; the input reads as it did. -/
def imagedUptoRow : OpenClaim := { program := "ytolgpnaoaodepaagreat", sum := "f58261939511e4a64528440c67636a03ed0871f44f7a90c3d74dd4626a9ad1a7", func := "silt/siltkeep.Imaged", spec := "imaged", inPlace := ["(*internal/sync.Mutex).Lock", "internal/race.Disable", "sync/atomic.CompareAndSwapInt32", "internal/race.Enable", "internal/race.Acquire", "(*internal/sync.Mutex).lockSlow", "internal/sync.runtime_canSpin", "internal/sync.runtime_doSpin", "internal/sync.throw", "internal/sync.runtime_nanotime", "internal/sync.runtime_SemacquireMutex", "sync/atomic.AddInt32", "(*internal/sync.Mutex).Unlock", "internal/race.ReleaseMerge", "(*internal/sync.Mutex).unlockSlow", "internal/sync.fatal", "internal/sync.runtime_Semrelease", "internal/bytealg.abigen_runtime_cmpstring", "slices.overlaps[silt/api.Item]", "slices.overlaps[silt/tree.part]"], unfollowed := true, recurses := true, apart := false, narrowed := true }
def ImagedUptoSaid : Prop := imagedUptoRow.holds Tryz.pinned (OpenSpec.upto imagedSpec)

/-- 'siltkeep.Loaded', WHERE WHAT IT READS IS OF BULK AT MOST 1048576: true; the input reads as it did. -/
def loadedUptoRow : OpenClaim := { program := "ytolgpnaoaodepaagreat", sum := "f58261939511e4a64528440c67636a03ed0871f44f7a90c3d74dd4626a9ad1a7", func := "silt/siltkeep.Loaded", spec := "loaded", inPlace := ["(*internal/sync.Mutex).Lock", "internal/race.Disable", "sync/atomic.CompareAndSwapInt32", "internal/race.Enable", "internal/race.Acquire", "(*internal/sync.Mutex).lockSlow", "internal/sync.runtime_canSpin", "internal/sync.runtime_doSpin", "internal/sync.throw", "internal/sync.runtime_nanotime", "internal/sync.runtime_SemacquireMutex", "sync/atomic.AddInt32", "(*internal/sync.Mutex).Unlock", "internal/race.ReleaseMerge", "(*internal/sync.Mutex).unlockSlow", "internal/sync.fatal", "internal/sync.runtime_Semrelease", "internal/bytealg.abigen_runtime_cmpstring", "slices.overlaps[silt/api.Item]", "slices.overlaps[silt/tree.part]"], unfollowed := true, recurses := true, apart := false, narrowed := true }
def LoadedUptoSaid : Prop := loadedUptoRow.holds Tryz.pinned (OpenSpec.upto loadedSpec)

/-- 'siltlaw.All', WHERE WHAT IT READS IS OF BULK AT MOST 1048576: true; the input reads as it did. -/
def allUptoRow : OpenClaim := { program := "ytolgpnaoaodepaagreat", sum := "f58261939511e4a64528440c67636a03ed0871f44f7a90c3d74dd4626a9ad1a7", func := "silt/siltlaw.All", spec := "all", inPlace := ["internal/bytealg.abigen_runtime_cmpstring", "slices.overlaps[silt/api.Item]", "slices.overlaps[silt/tree.part]", "(*internal/sync.Mutex).Lock", "internal/race.Disable", "sync/atomic.CompareAndSwapInt32", "internal/race.Enable", "internal/race.Acquire", "(*internal/sync.Mutex).lockSlow", "internal/sync.runtime_canSpin", "internal/sync.runtime_doSpin", "internal/sync.throw", "internal/sync.runtime_nanotime", "internal/sync.runtime_SemacquireMutex", "sync/atomic.AddInt32", "(*internal/sync.Mutex).Unlock", "internal/race.ReleaseMerge", "(*internal/sync.Mutex).unlockSlow", "internal/sync.fatal", "internal/sync.runtime_Semrelease"], unfollowed := true, recurses := true, apart := false, narrowed := true }
def AllUptoSaid : Prop := allUptoRow.holds Tryz.pinned (OpenSpec.upto allSpec)

end Rows
end Go.Proofs.YtolgpnaoaodepaaGreat
