/-
  A closed fact of the row memberCanons: reckoned by the kernel.
-/
import Derived.Test.YtjhecpkdpomkmaaGreatRows
import Derived.Test.YtjhecpkdpomkmaaGreatMLCanonsAY
import Derived.Test.YtjhecpkdpomkmaaGreatMLCanonsBY
import Derived.Test.YtjhecpkdpomkmaaGreatMLCanonsCY
import Derived.Test.YtjhecpkdpomkmaaGreatMLCanonsDY
import Derived.ProofKit
import Derived.OpenShut
import Derived.ShutString
import Derived.ChangeOld
namespace Go.Proofs.YtjhecpkdpomkmaaGreat.memberCanons
open Go.ChangeShapes Go.WideShapes Go.ChangeAt Go.RowKit
set_option maxRecDepth 100000

theorem closed : joinedFacts Tryz.pinned.checked.prog 3 Tryz.f3 Rows.memberCanonsSpec Rows.memberCanonsRow = true := by
  unfold joinedFacts
  rw [factA, factB, factC, factD]
  kernel_rfl
end Go.Proofs.YtjhecpkdpomkmaaGreat.memberCanons
