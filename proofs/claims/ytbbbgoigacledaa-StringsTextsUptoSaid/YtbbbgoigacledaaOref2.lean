/-
  The document's answers for package octets: which number octets are.
-/
import Derived.Test.YtbbbgoigacledaaOref
namespace Go.Proofs.Ytbbbgoigacledaa
open Go.RowKit
set_option linter.unusedVariables false
set_option linter.unusedSimpArgs false
set_option maxRecDepth 100000

theorem add_shift (x b : Nat) : ((x : Int) * 256 % 18446744073709551616 + b) % 18446744073709551616 = (((256 * x + b) % 2 ^ 64 : Nat) : Int) := by omega
end Go.Proofs.Ytbbbgoigacledaa
