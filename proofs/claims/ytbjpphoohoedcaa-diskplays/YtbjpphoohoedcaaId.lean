/- The walk of DiskPlays, whatever the image. -/
import Derived.Test.YtbjpphoohoedcaaIc
namespace Go.Proofs.Ytbjpphoohoedcaa
open Go.RowKit

theorem plays_walk (n0 : Int) (hn0 : I64 n0) (s : ByteArray) (hs : s.size ≤ 140737488355328) (l : List Opr) (ad : Option Addr) (c : Nat) (w : World) (hO : OpsV w l ad) (hll : l.length * 72 ≤ 140737488351232) : Calls Try.prog 4 #[.int .i64 n0, .string s, .slice ad l.length c] w fun e w' => e = .returned (.bool true) ∧ Below w.heap.size w w' := by
  by_cases hm : s.size % 512 = 0 ∧ 1 ≤ s.size / 512 ∧ s.size / 512 ≤ 4096
  · exact plays_y n0 hn0 s hs (s.size / 512) (by omega) (by omega) (by omega) l ad c w hO hll
  · exact plays_n n0 hn0 s hs hm l ad c w hO hll
end Go.Proofs.Ytbjpphoohoedcaa
