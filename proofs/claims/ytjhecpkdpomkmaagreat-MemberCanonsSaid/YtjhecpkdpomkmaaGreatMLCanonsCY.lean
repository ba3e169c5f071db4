/-
  A closed fact of the row memberCanons: reckoned by the kernel.
-/
import Derived.Test.YtjhecpkdpomkmaaGreatRows
import Derived.ProofKit
import Derived.OpenShut
import Derived.ShutString
import Derived.ChangeOld
namespace Go.Proofs.YtjhecpkdpomkmaaGreat.memberCanons
open Go.ChangeShapes Go.WideShapes Go.ChangeAt Go.RowKit
set_option maxRecDepth 100000

theorem factC : (Rows.memberCanonsRow.recurses == Tryz.pinned.checked.prog.recurses 3) = true := by kernel_rfl
end Go.Proofs.YtjhecpkdpomkmaaGreat.memberCanons
