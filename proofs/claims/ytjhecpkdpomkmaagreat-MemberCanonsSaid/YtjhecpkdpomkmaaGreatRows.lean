/-
  NARROWER THAN 'FOR EVERY INPUT', by the rows' own cells (each row's printed sentence says how): MemberCanons: loops · EncEncodes: loops · EncMembers: loops · EncDefaults: loops · EncNames: loops · EncLeaf: loops.
  DERIVED. THE GIVEN ROWS OF THIS SEAT. 7 by the template 'for every input the law returns true; each argument reads behind the call as it read before'; 0 by the template 'total and deterministic' (their statements: YtjhecpkdpomkmaaGreatTotals.lean).
  GIVEN WITH THE SEED: the statements are not yours to turn. If you find one false, say at which input.
  Laid BY PROGRAM, IN A SANDBOX (cutbox-rows.mjs): the forced cells as the released guide's own fill.sh prints them over the translation 4ed2725f71f91387… (all of the seat's roots in one cut). By AI agents, Wed Nov 11 2026. No macro, syntax, notation, axiom, sorry.
-/
import Derived.Test.YtjhecpkdpomkmaaGreatChecked
import GoSem.Claim
import GoSem.ClaimJoined
import GoSem.ClaimMapViews
import Derived.JoinedTies
import Derived.KernelRfl
namespace Go.Proofs.YtjhecpkdpomkmaaGreat
/- THE CELL 'sum', in the pinned program and in every row, IS THE sha256 OF THE DUMP (.gsa) THAT YtjhecpkdpomkmaaGreatProg.lean LOADS. Nothing in Lean hashes anything: it is a label: what it is worth is what the hold of that sum in a sandbox is worth. -/
noncomputable def Tryz.pinned : Pinned := { name := "ytjhecpkdpomkmaagreat", sum := "4ed2725f71f913870fdf11b4da9d87f0a5ec928acb1c95e258ce5e36838fabbc", checked := Tryz.checked }
namespace Rows
def none {H : Type} : Left H := { results := [], args := [] }

/-- 'spandrellaw15.MemberCanons': WHATEVER THE INPUT: true; the input reads as it did. -/
def memberCanonsSpec : ChangeSpec := { name := "memberCanons", fn := fun _ => fun
  | [d1, d2, d3] => { results := [.lit (.bool true)], args := [d1, d2, d3] }
  | _ => none }
def memberCanonsRow : OpenClaim := { program := "ytjhecpkdpomkmaagreat", sum := "4ed2725f71f913870fdf11b4da9d87f0a5ec928acb1c95e258ce5e36838fabbc", func := "spandrel/spandrellaw15.MemberCanons", spec := "memberCanons", inPlace := ["internal/bytealg.IndexByteString"], unfollowed := true, recurses := true, loops := true, apart := false }
def MemberCanonsSaid : Prop := memberCanonsRow.holds Tryz.pinned (OpenSpec.ofChange memberCanonsSpec)

/-- ITS FALSE NEIGHBOUR: 'it returns false'. Refute it at one input. -/
def memberCanonsWrong : ChangeSpec := { name := "memberCanons", fn := fun _ => fun
  | [d1, d2, d3] => { results := [.lit (.bool false)], args := [d1, d2, d3] }
  | _ => none }
def MemberCanonsWrongFalsely : Prop := memberCanonsRow.holds Tryz.pinned (OpenSpec.ofChange memberCanonsWrong)

/-- 'spandrellaw16.EncEncodes': WHATEVER THE INPUT: true; the input reads as it did. -/
def encEncodesSpec : ChangeSpec := { name := "encEncodes", fn := fun _ => fun
  | [d1, d2, d3] => { results := [.lit (.bool true)], args := [d1, d2, d3] }
  | _ => none }
def encEncodesRow : OpenClaim := { program := "ytjhecpkdpomkmaagreat", sum := "4ed2725f71f913870fdf11b4da9d87f0a5ec928acb1c95e258ce5e36838fabbc", func := "spandrel/spandrellaw16.EncEncodes", spec := "encEncodes", inPlace := ["internal/bytealg.IndexByteString"], unfollowed := true, recurses := true, loops := true, apart := false }
def EncEncodesSaid : Prop := encEncodesRow.holds Tryz.pinned (OpenSpec.ofChange encEncodesSpec)

/-- ITS FALSE NEIGHBOUR: 'it returns false'. Refute it at one input. -/
def encEncodesWrong : ChangeSpec := { name := "encEncodes", fn := fun _ => fun
  | [d1, d2, d3] => { results := [.lit (.bool false)], args := [d1, d2, d3] }
  | _ => none }
def EncEncodesWrongFalsely : Prop := encEncodesRow.holds Tryz.pinned (OpenSpec.ofChange encEncodesWrong)

/-- 'spandrellaw16.EncMembers': WHATEVER THE INPUT: true; the input reads as it did. -/
def encMembersSpec : ChangeSpec := { name := "encMembers", fn := fun _ => fun
  | [d1, d2, d3] => { results := [.lit (.bool true)], args := [d1, d2, d3] }
  | _ => none }
def encMembersRow : OpenClaim := { program := "ytjhecpkdpomkmaagreat", sum := "4ed2725f71f913870fdf11b4da9d87f0a5ec928acb1c95e258ce5e36838fabbc", func := "spandrel/spandrellaw16.EncMembers", spec := "encMembers", inPlace := ["internal/bytealg.IndexByteString"], unfollowed := true, recurses := true, loops := true, apart := false }
def EncMembersSaid : Prop := encMembersRow.holds Tryz.pinned (OpenSpec.ofChange encMembersSpec)

/-- ITS FALSE NEIGHBOUR: 'it returns false'. Refute it at one input. -/
def encMembersWrong : ChangeSpec := { name := "encMembers", fn := fun _ => fun
  | [d1, d2, d3] => { results := [.lit (.bool false)], args := [d1, d2, d3] }
  | _ => none }
def EncMembersWrongFalsely : Prop := encMembersRow.holds Tryz.pinned (OpenSpec.ofChange encMembersWrong)

/-- 'spandrellaw16.EncDefaults': WHATEVER THE INPUT: true; the input reads as it did. -/
def encDefaultsSpec : ChangeSpec := { name := "encDefaults", fn := fun _ => fun
  | [d1, d2, d3] => { results := [.lit (.bool true)], args := [d1, d2, d3] }
  | _ => none }
def encDefaultsRow : OpenClaim := { program := "ytjhecpkdpomkmaagreat", sum := "4ed2725f71f913870fdf11b4da9d87f0a5ec928acb1c95e258ce5e36838fabbc", func := "spandrel/spandrellaw16.EncDefaults", spec := "encDefaults", inPlace := ["internal/bytealg.IndexByteString"], unfollowed := true, recurses := true, loops := true, apart := false }
def EncDefaultsSaid : Prop := encDefaultsRow.holds Tryz.pinned (OpenSpec.ofChange encDefaultsSpec)

/-- ITS FALSE NEIGHBOUR: 'it returns false'. Refute it at one input. -/
def encDefaultsWrong : ChangeSpec := { name := "encDefaults", fn := fun _ => fun
  | [d1, d2, d3] => { results := [.lit (.bool false)], args := [d1, d2, d3] }
  | _ => none }
def EncDefaultsWrongFalsely : Prop := encDefaultsRow.holds Tryz.pinned (OpenSpec.ofChange encDefaultsWrong)

/-- 'spandrellaw16.EncNames': WHATEVER THE INPUT: true; the input reads as it did. -/
def encNamesSpec : ChangeSpec := { name := "encNames", fn := fun _ => fun
  | [d1, d2, d3, d4] => { results := [.lit (.bool true)], args := [d1, d2, d3, d4] }
  | _ => none }
def encNamesRow : OpenClaim := { program := "ytjhecpkdpomkmaagreat", sum := "4ed2725f71f913870fdf11b4da9d87f0a5ec928acb1c95e258ce5e36838fabbc", func := "spandrel/spandrellaw16.EncNames", spec := "encNames", inPlace := ["internal/bytealg.IndexByteString"], unfollowed := true, recurses := true, loops := true, apart := false }
def EncNamesSaid : Prop := encNamesRow.holds Tryz.pinned (OpenSpec.ofChange encNamesSpec)

/-- ITS FALSE NEIGHBOUR: 'it returns false'. Refute it at one input. -/
def encNamesWrong : ChangeSpec := { name := "encNames", fn := fun _ => fun
  | [d1, d2, d3, d4] => { results := [.lit (.bool false)], args := [d1, d2, d3, d4] }
  | _ => none }
def EncNamesWrongFalsely : Prop := encNamesRow.holds Tryz.pinned (OpenSpec.ofChange encNamesWrong)

/-- 'spandrellaw16.EncLeaf': WHATEVER THE INPUT: true; the input reads as it did. -/
def encLeafSpec : ChangeSpec := { name := "encLeaf", fn := fun _ => fun
  | [d1, d2, d3, d4] => { results := [.lit (.bool true)], args := [d1, d2, d3, d4] }
  | _ => none }
def encLeafRow : OpenClaim := { program := "ytjhecpkdpomkmaagreat", sum := "4ed2725f71f913870fdf11b4da9d87f0a5ec928acb1c95e258ce5e36838fabbc", func := "spandrel/spandrellaw16.EncLeaf", spec := "encLeaf", inPlace := ["internal/bytealg.IndexByteString"], unfollowed := true, recurses := true, loops := true, apart := false }
def EncLeafSaid : Prop := encLeafRow.holds Tryz.pinned (OpenSpec.ofChange encLeafSpec)

/-- ITS FALSE NEIGHBOUR: 'it returns false'. Refute it at one input. -/
def encLeafWrong : ChangeSpec := { name := "encLeaf", fn := fun _ => fun
  | [d1, d2, d3, d4] => { results := [.lit (.bool false)], args := [d1, d2, d3, d4] }
  | _ => none }
def EncLeafWrongFalsely : Prop := encLeafRow.holds Tryz.pinned (OpenSpec.ofChange encLeafWrong)

/-- 'spandrellaw16.EncInts': WHATEVER THE INPUT: true; the input reads as it did. -/
def encIntsSpec : ChangeSpec := { name := "encInts", fn := fun _ => fun
  | [d1, d2, d3] => { results := [.lit (.bool true)], args := [d1, d2, d3] }
  | _ => none }
def encIntsRow : OpenClaim := { program := "ytjhecpkdpomkmaagreat", sum := "4ed2725f71f913870fdf11b4da9d87f0a5ec928acb1c95e258ce5e36838fabbc", func := "spandrel/spandrellaw16.EncInts", spec := "encInts", inPlace := ["internal/bytealg.IndexByteString"], unfollowed := true, recurses := true, apart := false }
def EncIntsSaid : Prop := encIntsRow.holds Tryz.pinned (OpenSpec.ofChange encIntsSpec)

/-- ITS FALSE NEIGHBOUR: 'it returns false'. Refute it at one input. -/
def encIntsWrong : ChangeSpec := { name := "encInts", fn := fun _ => fun
  | [d1, d2, d3] => { results := [.lit (.bool false)], args := [d1, d2, d3] }
  | _ => none }
def EncIntsWrongFalsely : Prop := encIntsRow.holds Tryz.pinned (OpenSpec.ofChange encIntsWrong)

/- THE SECOND FORM. 'bulk': how many values and letters a reading holds, each counted each time it is reached (what is shared counts as often as it is met; a slice's spare places count too). A statement '..UptoSaid' is the law's where the arguments, and the package variables that the reading takes, are together of bulk at most 1048576: NARROWER than '..Said'. Prove '..Said' where nothing that the law and all that it calls make is longer than what came in: it says more and counts as full. Else prove '..UptoSaid'. A law counts once. -/
mutual
def uptoBulk {H : Type} : DataW H → Nat
  | .lit (.string bytes) => bytes.length + 1
  | .lit _ => 1
  | .nil => 1
  | .ptr d => uptoBulk d + 1
  | .slice elems spare => uptoBulkAll elems + uptoBulkAll spare + 1
  | .agg parts => uptoBulkAll parts + 1
  | .iface _ d => uptoBulk d + 1
  | .map entries => uptoBulkEntries entries + 1
  | .held _ => 1
def uptoBulkAll {H : Type} : List (DataW H) → Nat
  | [] => 0
  | d :: r => uptoBulk d + uptoBulkAll r
def uptoBulkEntries {H : Type} : List (Lit × DataW H) → Nat
  | [] => 0
  | x :: r => uptoBulkEntry x + uptoBulkEntries r
def uptoBulkEntry {H : Type} : Lit × DataW H → Nat
  | (.string bytes, d) => bytes.length + uptoBulk d + 1
  | (_, d) => uptoBulk d + 1
 end
def uptoSmall : (H : Type) → List (DataW H) → Bool := fun _ ds => decide (uptoBulkAll ds ≤ 1048576)
def OpenSpec.upto (s : _root_.Go.ChangeSpec) : _root_.Go.OpenSpec := { _root_.Go.OpenSpec.ofChange s with cond := some uptoSmall }

/-- 'spandrellaw15.MemberCanons', WHERE WHAT IT READS IS OF BULK AT MOST 1048576: true; the input reads as it did. -/
def memberCanonsUptoRow : OpenClaim := { program := "ytjhecpkdpomkmaagreat", sum := "4ed2725f71f913870fdf11b4da9d87f0a5ec928acb1c95e258ce5e36838fabbc", func := "spandrel/spandrellaw15.MemberCanons", spec := "memberCanons", inPlace := ["internal/bytealg.IndexByteString"], unfollowed := true, recurses := true, loops := true, apart := false, narrowed := true }
def MemberCanonsUptoSaid : Prop := memberCanonsUptoRow.holds Tryz.pinned (OpenSpec.upto memberCanonsSpec)

/-- 'spandrellaw16.EncEncodes', WHERE WHAT IT READS IS OF BULK AT MOST 1048576: true; the input reads as it did. -/
def encEncodesUptoRow : OpenClaim := { program := "ytjhecpkdpomkmaagreat", sum := "4ed2725f71f913870fdf11b4da9d87f0a5ec928acb1c95e258ce5e36838fabbc", func := "spandrel/spandrellaw16.EncEncodes", spec := "encEncodes", inPlace := ["internal/bytealg.IndexByteString"], unfollowed := true, recurses := true, loops := true, apart := false, narrowed := true }
def EncEncodesUptoSaid : Prop := encEncodesUptoRow.holds Tryz.pinned (OpenSpec.upto encEncodesSpec)

/-- 'spandrellaw16.EncMembers', WHERE WHAT IT READS IS OF BULK AT MOST 1048576: true; the input reads as it did. -/
def encMembersUptoRow : OpenClaim := { program := "ytjhecpkdpomkmaagreat", sum := "4ed2725f71f913870fdf11b4da9d87f0a5ec928acb1c95e258ce5e36838fabbc", func := "spandrel/spandrellaw16.EncMembers", spec := "encMembers", inPlace := ["internal/bytealg.IndexByteString"], unfollowed := true, recurses := true, loops := true, apart := false, narrowed := true }
def EncMembersUptoSaid : Prop := encMembersUptoRow.holds Tryz.pinned (OpenSpec.upto encMembersSpec)

/-- 'spandrellaw16.EncDefaults', WHERE WHAT IT READS IS OF BULK AT MOST 1048576: true; the input reads as it did. -/
def encDefaultsUptoRow : OpenClaim := { program := "ytjhecpkdpomkmaagreat", sum := "4ed2725f71f913870fdf11b4da9d87f0a5ec928acb1c95e258ce5e36838fabbc", func := "spandrel/spandrellaw16.EncDefaults", spec := "encDefaults", inPlace := ["internal/bytealg.IndexByteString"], unfollowed := true, recurses := true, loops := true, apart := false, narrowed := true }
def EncDefaultsUptoSaid : Prop := encDefaultsUptoRow.holds Tryz.pinned (OpenSpec.upto encDefaultsSpec)

/-- 'spandrellaw16.EncNames', WHERE WHAT IT READS IS OF BULK AT MOST 1048576: true; the input reads as it did. -/
def encNamesUptoRow : OpenClaim := { program := "ytjhecpkdpomkmaagreat", sum := "4ed2725f71f913870fdf11b4da9d87f0a5ec928acb1c95e258ce5e36838fabbc", func := "spandrel/spandrellaw16.EncNames", spec := "encNames", inPlace := ["internal/bytealg.IndexByteString"], unfollowed := true, recurses := true, loops := true, apart := false, narrowed := true }
def EncNamesUptoSaid : Prop := encNamesUptoRow.holds Tryz.pinned (OpenSpec.upto encNamesSpec)

/-- 'spandrellaw16.EncLeaf', WHERE WHAT IT READS IS OF BULK AT MOST 1048576: true; the input reads as it did. -/
def encLeafUptoRow : OpenClaim := { program := "ytjhecpkdpomkmaagreat", sum := "4ed2725f71f913870fdf11b4da9d87f0a5ec928acb1c95e258ce5e36838fabbc", func := "spandrel/spandrellaw16.EncLeaf", spec := "encLeaf", inPlace := ["internal/bytealg.IndexByteString"], unfollowed := true, recurses := true, loops := true, apart := false, narrowed := true }
def EncLeafUptoSaid : Prop := encLeafUptoRow.holds Tryz.pinned (OpenSpec.upto encLeafSpec)

/-- 'spandrellaw16.EncInts', WHERE WHAT IT READS IS OF BULK AT MOST 1048576: true; the input reads as it did. -/
def encIntsUptoRow : OpenClaim := { program := "ytjhecpkdpomkmaagreat", sum := "4ed2725f71f913870fdf11b4da9d87f0a5ec928acb1c95e258ce5e36838fabbc", func := "spandrel/spandrellaw16.EncInts", spec := "encInts", inPlace := ["internal/bytealg.IndexByteString"], unfollowed := true, recurses := true, apart := false, narrowed := true }
def EncIntsUptoSaid : Prop := encIntsUptoRow.holds Tryz.pinned (OpenSpec.upto encIntsSpec)

end Rows
end Go.Proofs.YtjhecpkdpomkmaaGreat
