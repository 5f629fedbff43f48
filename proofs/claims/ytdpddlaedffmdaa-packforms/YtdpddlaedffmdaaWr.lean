/- slices.Reverse over bytes: the cells of the slice hold the list turned round; all else is as it was. -/
import Derived.Test.YtdpddlaedffmdaaProg
import Derived.WalkKit
import Derived.Deep.LoopGhost
import Derived.Lib.Walk
import Derived.Sort.WalkB12
import Derived.Lib.SlicesMore
import Derived.Lib.OwnBridge
import Derived.Laws.IdiomStrings
namespace Go.Proofs.Ytdpddlaedffmdaa
open Go.RowKit Go.Lib Go.Sort
set_option linter.unusedVariables false

abbrev encU : UInt8 → Value := fun b => Value.int .u8 (b.toNat : Int)
end Go.Proofs.Ytdpddlaedffmdaa
