/-
  Nothing: slices.Delete is not in this program.
-/
import Derived.Test.YtbagmmncjmbboaaGreatShelfB
namespace Go.Proofs.YtbagmmncjmbboaaGreat
end Go.Proofs.YtbagmmncjmbboaaGreat
