/-
  The document's answers for package whole: writing.
-/
import Derived.Test.YtbpfggkpfaobhaaGreatWhM
import Derived.Test.YtbpfggkpfaobhaaGreatOref2
import Derived.Test.YtbpfggkpfaobhaaGreatM3
namespace Go.Proofs.YtbpfggkpfaobhaaGreat
open Go.RowKit
set_option linter.unusedVariables false
set_option linter.unusedSimpArgs false
set_option maxRecDepth 100000

theorem roff_num (n lo : Int) (h1 : -9223372036854775808 ≤ lo) (h2 : lo ≤ n) (h3 : n ≤ 9223372036854775807) : IntKind.u64.wrap (IntKind.u64.wrap n - IntKind.u64.wrap lo) = ((n - lo).toNat : Int) := by
  simp only [IntKind.wrap, IntKind.signed, IntKind.bits]
  simp
  omega
end Go.Proofs.YtbpfggkpfaobhaaGreat
