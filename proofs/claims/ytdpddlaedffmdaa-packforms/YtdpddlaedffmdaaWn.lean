/- Package value's fromDigits at every text, fromNumber. -/
import Derived.Test.YtdpddlaedffmdaaWf
import Derived.Lib.Strings
namespace Go.Proofs.Ytdpddlaedffmdaa
open Go.RowKit
set_option linter.unusedVariables false
set_option linter.unusedSimpArgs false

theorem extract_list (s : ByteArray) (a b : Nat) : (s.extract a b).data.toList = (s.data.toList.take b).drop a := by
  rw [Lib.extract_data, List.drop_take]
/-- What a number's text says. -/
def fnN (l : List UInt8) : Nat × Int :=
  if l.take 2 = [48, 120] then fdN 16 (l.drop 2) else if l.take 2 = [48, 98] then fdN 2 (l.drop 2) else fdN 10 l

end Go.Proofs.Ytdpddlaedffmdaa
