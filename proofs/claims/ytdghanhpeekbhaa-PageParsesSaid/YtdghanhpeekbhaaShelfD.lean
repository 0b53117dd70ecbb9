/-
  A stub: slices.Delete is not in this seat.
-/
import Derived.Test.YtdghanhpeekbhaaShelfB
namespace Go.Proofs.Ytdghanhpeekbhaa
end Go.Proofs.Ytdghanhpeekbhaa
