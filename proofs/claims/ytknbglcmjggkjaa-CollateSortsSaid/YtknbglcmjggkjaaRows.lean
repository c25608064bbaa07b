/-
  No cell of these rows narrows 'for every input' (looked for: loops, veiled, ifaces, maps, wideKeys, modest, calm, conditions, laid).
  DERIVED. THE GIVEN ROWS OF THIS SEAT. 11 by the template 'for every input the law returns true; each argument reads behind the call as it read before'; 0 by the template 'total and deterministic' (their statements: YtknbglcmjggkjaaTotals.lean).
  GIVEN WITH THE SEED: the statements are not yours to turn. If you find one false, say at which input.
  Laid BY PROGRAM, IN A SANDBOX (cutbox-rows.mjs): the forced cells as the released guide's own fill.sh prints them over the translation 198b30fbb323d864… (all of the seat's roots in one cut). By AI agents, Wed Nov 11 2026. No macro, syntax, notation, axiom, sorry.
-/
import Derived.Test.YtknbglcmjggkjaaChecked
import GoSem.Claim
import GoSem.ClaimJoined
import GoSem.ClaimMapViews
import Derived.JoinedTies
import Derived.KernelRfl
namespace Go.Proofs.Ytknbglcmjggkjaa
/- THE CELL 'sum', in the pinned program and in every row, IS THE sha256 OF THE DUMP (.gsa) THAT YtknbglcmjggkjaaProg.lean LOADS. Nothing in Lean hashes anything: it is a label: what it is worth is what the hold of that sum in a sandbox is worth. -/
noncomputable def Try.pinned : Pinned := { name := "ytknbglcmjggkjaa", sum := "198b30fbb323d864a7f1d7eb4ab1c252aefd64d346ccf6bc6433bdbf6008f0c4", checked := Try.checked }
namespace Rows
def none {H : Type} : Left H := { results := [], args := [] }

/-- 'obeluslaw06.CollateElements': WHATEVER THE INPUT: true; the input reads as it did. -/
def collateElementsSpec : ChangeSpec := { name := "collateElements", fn := fun _ => fun
  | [d1, d2] => { results := [.lit (.bool true)], args := [d1, d2] }
  | _ => none }
def collateElementsRow : OpenClaim := { program := "ytknbglcmjggkjaa", sum := "198b30fbb323d864a7f1d7eb4ab1c252aefd64d346ccf6bc6433bdbf6008f0c4", func := "obelus/obeluslaw06.CollateElements", spec := "collateElements", inPlace := ["internal/bytealg.abigen_runtime_cmpstring"], unfollowed := true, recurses := true, apart := false }
def CollateElementsSaid : Prop := collateElementsRow.holds Try.pinned (OpenSpec.ofChange collateElementsSpec)

/-- ITS FALSE NEIGHBOUR: 'it returns false'. Refute it at one input. -/
def collateElementsWrong : ChangeSpec := { name := "collateElements", fn := fun _ => fun
  | [d1, d2] => { results := [.lit (.bool false)], args := [d1, d2] }
  | _ => none }
def CollateElementsWrongFalsely : Prop := collateElementsRow.holds Try.pinned (OpenSpec.ofChange collateElementsWrong)

/-- 'obeluslaw06.CollateKeys': WHATEVER THE INPUT: true; the input reads as it did. -/
def collateKeysSpec : ChangeSpec := { name := "collateKeys", fn := fun _ => fun
  | [d1, d2] => { results := [.lit (.bool true)], args := [d1, d2] }
  | _ => none }
def collateKeysRow : OpenClaim := { program := "ytknbglcmjggkjaa", sum := "198b30fbb323d864a7f1d7eb4ab1c252aefd64d346ccf6bc6433bdbf6008f0c4", func := "obelus/obeluslaw06.CollateKeys", spec := "collateKeys", inPlace := ["internal/bytealg.abigen_runtime_cmpstring"], unfollowed := true, recurses := true, apart := false }
def CollateKeysSaid : Prop := collateKeysRow.holds Try.pinned (OpenSpec.ofChange collateKeysSpec)

/-- ITS FALSE NEIGHBOUR: 'it returns false'. Refute it at one input. -/
def collateKeysWrong : ChangeSpec := { name := "collateKeys", fn := fun _ => fun
  | [d1, d2] => { results := [.lit (.bool false)], args := [d1, d2] }
  | _ => none }
def CollateKeysWrongFalsely : Prop := collateKeysRow.holds Try.pinned (OpenSpec.ofChange collateKeysWrong)

/-- 'obeluslaw06.CollateCompares': WHATEVER THE INPUT: true; the input reads as it did. -/
def collateComparesSpec : ChangeSpec := { name := "collateCompares", fn := fun _ => fun
  | [d1, d2, d3] => { results := [.lit (.bool true)], args := [d1, d2, d3] }
  | _ => none }
def collateComparesRow : OpenClaim := { program := "ytknbglcmjggkjaa", sum := "198b30fbb323d864a7f1d7eb4ab1c252aefd64d346ccf6bc6433bdbf6008f0c4", func := "obelus/obeluslaw06.CollateCompares", spec := "collateCompares", inPlace := ["internal/bytealg.abigen_runtime_cmpstring"], unfollowed := true, recurses := true, apart := false }
def CollateComparesSaid : Prop := collateComparesRow.holds Try.pinned (OpenSpec.ofChange collateComparesSpec)

/-- ITS FALSE NEIGHBOUR: 'it returns false'. Refute it at one input. -/
def collateComparesWrong : ChangeSpec := { name := "collateCompares", fn := fun _ => fun
  | [d1, d2, d3] => { results := [.lit (.bool false)], args := [d1, d2, d3] }
  | _ => none }
def CollateComparesWrongFalsely : Prop := collateComparesRow.holds Try.pinned (OpenSpec.ofChange collateComparesWrong)

/-- 'obeluslaw06.CollateOrders': WHATEVER THE INPUT: true; the input reads as it did. -/
def collateOrdersSpec : ChangeSpec := { name := "collateOrders", fn := fun _ => fun
  | [d1, d2] => { results := [.lit (.bool true)], args := [d1, d2] }
  | _ => none }
def collateOrdersRow : OpenClaim := { program := "ytknbglcmjggkjaa", sum := "198b30fbb323d864a7f1d7eb4ab1c252aefd64d346ccf6bc6433bdbf6008f0c4", func := "obelus/obeluslaw06.CollateOrders", spec := "collateOrders", inPlace := ["internal/bytealg.abigen_runtime_cmpstring"], unfollowed := true, recurses := true, apart := false }
def CollateOrdersSaid : Prop := collateOrdersRow.holds Try.pinned (OpenSpec.ofChange collateOrdersSpec)

/-- ITS FALSE NEIGHBOUR: 'it returns false'. Refute it at one input. -/
def collateOrdersWrong : ChangeSpec := { name := "collateOrders", fn := fun _ => fun
  | [d1, d2] => { results := [.lit (.bool false)], args := [d1, d2] }
  | _ => none }
def CollateOrdersWrongFalsely : Prop := collateOrdersRow.holds Try.pinned (OpenSpec.ofChange collateOrdersWrong)

/-- 'obeluslaw06.CollateStrengths': WHATEVER THE INPUT: true; the input reads as it did. -/
def collateStrengthsSpec : ChangeSpec := { name := "collateStrengths", fn := fun _ => fun
  | [d1, d2, d3] => { results := [.lit (.bool true)], args := [d1, d2, d3] }
  | _ => none }
def collateStrengthsRow : OpenClaim := { program := "ytknbglcmjggkjaa", sum := "198b30fbb323d864a7f1d7eb4ab1c252aefd64d346ccf6bc6433bdbf6008f0c4", func := "obelus/obeluslaw06.CollateStrengths", spec := "collateStrengths", inPlace := ["internal/bytealg.abigen_runtime_cmpstring"], unfollowed := true, recurses := true, apart := false }
def CollateStrengthsSaid : Prop := collateStrengthsRow.holds Try.pinned (OpenSpec.ofChange collateStrengthsSpec)

/-- ITS FALSE NEIGHBOUR: 'it returns false'. Refute it at one input. -/
def collateStrengthsWrong : ChangeSpec := { name := "collateStrengths", fn := fun _ => fun
  | [d1, d2, d3] => { results := [.lit (.bool false)], args := [d1, d2, d3] }
  | _ => none }
def CollateStrengthsWrongFalsely : Prop := collateStrengthsRow.holds Try.pinned (OpenSpec.ofChange collateStrengthsWrong)

/-- 'obeluslaw06.CollateNumbers': WHATEVER THE INPUT: true; the input reads as it did. -/
def collateNumbersSpec : ChangeSpec := { name := "collateNumbers", fn := fun _ => fun
  | [d1, d2, d3] => { results := [.lit (.bool true)], args := [d1, d2, d3] }
  | _ => none }
def collateNumbersRow : OpenClaim := { program := "ytknbglcmjggkjaa", sum := "198b30fbb323d864a7f1d7eb4ab1c252aefd64d346ccf6bc6433bdbf6008f0c4", func := "obelus/obeluslaw06.CollateNumbers", spec := "collateNumbers", inPlace := ["internal/bytealg.abigen_runtime_cmpstring"], unfollowed := true, recurses := true, apart := false }
def CollateNumbersSaid : Prop := collateNumbersRow.holds Try.pinned (OpenSpec.ofChange collateNumbersSpec)

/-- ITS FALSE NEIGHBOUR: 'it returns false'. Refute it at one input. -/
def collateNumbersWrong : ChangeSpec := { name := "collateNumbers", fn := fun _ => fun
  | [d1, d2, d3] => { results := [.lit (.bool false)], args := [d1, d2, d3] }
  | _ => none }
def CollateNumbersWrongFalsely : Prop := collateNumbersRow.holds Try.pinned (OpenSpec.ofChange collateNumbersWrong)

/-- 'obeluslaw06.CollateMarks': WHATEVER THE INPUT: true; the input reads as it did. -/
def collateMarksSpec : ChangeSpec := { name := "collateMarks", fn := fun _ => fun
  | [d1, d2, d3] => { results := [.lit (.bool true)], args := [d1, d2, d3] }
  | _ => none }
def collateMarksRow : OpenClaim := { program := "ytknbglcmjggkjaa", sum := "198b30fbb323d864a7f1d7eb4ab1c252aefd64d346ccf6bc6433bdbf6008f0c4", func := "obelus/obeluslaw06.CollateMarks", spec := "collateMarks", inPlace := ["internal/bytealg.abigen_runtime_cmpstring"], unfollowed := true, recurses := true, apart := false }
def CollateMarksSaid : Prop := collateMarksRow.holds Try.pinned (OpenSpec.ofChange collateMarksSpec)

/-- ITS FALSE NEIGHBOUR: 'it returns false'. Refute it at one input. -/
def collateMarksWrong : ChangeSpec := { name := "collateMarks", fn := fun _ => fun
  | [d1, d2, d3] => { results := [.lit (.bool false)], args := [d1, d2, d3] }
  | _ => none }
def CollateMarksWrongFalsely : Prop := collateMarksRow.holds Try.pinned (OpenSpec.ofChange collateMarksWrong)

/-- 'obeluslaw06.CollateSorts': WHATEVER THE INPUT: true; the input reads as it did. -/
def collateSortsSpec : ChangeSpec := { name := "collateSorts", fn := fun _ => fun
  | [d1, d2] => { results := [.lit (.bool true)], args := [d1, d2] }
  | _ => none }
def collateSortsRow : OpenClaim := { program := "ytknbglcmjggkjaa", sum := "198b30fbb323d864a7f1d7eb4ab1c252aefd64d346ccf6bc6433bdbf6008f0c4", func := "obelus/obeluslaw06.CollateSorts", spec := "collateSorts", inPlace := ["internal/bytealg.abigen_runtime_cmpstring"], unfollowed := true, recurses := true, apart := false }
def CollateSortsSaid : Prop := collateSortsRow.holds Try.pinned (OpenSpec.ofChange collateSortsSpec)

/-- ITS FALSE NEIGHBOUR: 'it returns false'. Refute it at one input. -/
def collateSortsWrong : ChangeSpec := { name := "collateSorts", fn := fun _ => fun
  | [d1, d2] => { results := [.lit (.bool false)], args := [d1, d2] }
  | _ => none }
def CollateSortsWrongFalsely : Prop := collateSortsRow.holds Try.pinned (OpenSpec.ofChange collateSortsWrong)

/-- 'obeluslaw06.CollatePrefixes': WHATEVER THE INPUT: true; the input reads as it did. -/
def collatePrefixesSpec : ChangeSpec := { name := "collatePrefixes", fn := fun _ => fun
  | [d1, d2, d3] => { results := [.lit (.bool true)], args := [d1, d2, d3] }
  | _ => none }
def collatePrefixesRow : OpenClaim := { program := "ytknbglcmjggkjaa", sum := "198b30fbb323d864a7f1d7eb4ab1c252aefd64d346ccf6bc6433bdbf6008f0c4", func := "obelus/obeluslaw06.CollatePrefixes", spec := "collatePrefixes", inPlace := ["internal/bytealg.abigen_runtime_cmpstring"], unfollowed := true, recurses := true, apart := false }
def CollatePrefixesSaid : Prop := collatePrefixesRow.holds Try.pinned (OpenSpec.ofChange collatePrefixesSpec)

/-- ITS FALSE NEIGHBOUR: 'it returns false'. Refute it at one input. -/
def collatePrefixesWrong : ChangeSpec := { name := "collatePrefixes", fn := fun _ => fun
  | [d1, d2, d3] => { results := [.lit (.bool false)], args := [d1, d2, d3] }
  | _ => none }
def CollatePrefixesWrongFalsely : Prop := collatePrefixesRow.holds Try.pinned (OpenSpec.ofChange collatePrefixesWrong)

/-- 'obeluslaw06.CollateInitials': WHATEVER THE INPUT: true; the input reads as it did. -/
def collateInitialsSpec : ChangeSpec := { name := "collateInitials", fn := fun _ => fun
  | [d1, d2] => { results := [.lit (.bool true)], args := [d1, d2] }
  | _ => none }
def collateInitialsRow : OpenClaim := { program := "ytknbglcmjggkjaa", sum := "198b30fbb323d864a7f1d7eb4ab1c252aefd64d346ccf6bc6433bdbf6008f0c4", func := "obelus/obeluslaw06.CollateInitials", spec := "collateInitials", inPlace := ["internal/bytealg.abigen_runtime_cmpstring"], unfollowed := true, recurses := true, apart := false }
def CollateInitialsSaid : Prop := collateInitialsRow.holds Try.pinned (OpenSpec.ofChange collateInitialsSpec)

/-- ITS FALSE NEIGHBOUR: 'it returns false'. Refute it at one input. -/
def collateInitialsWrong : ChangeSpec := { name := "collateInitials", fn := fun _ => fun
  | [d1, d2] => { results := [.lit (.bool false)], args := [d1, d2] }
  | _ => none }
def CollateInitialsWrongFalsely : Prop := collateInitialsRow.holds Try.pinned (OpenSpec.ofChange collateInitialsWrong)

/-- 'obeluslaw06.CollateLong': WHATEVER THE INPUT: true; the input reads as it did. -/
def collateLongSpec : ChangeSpec := { name := "collateLong", fn := fun _ => fun
  | [d1, d2] => { results := [.lit (.bool true)], args := [d1, d2] }
  | _ => none }
def collateLongRow : OpenClaim := { program := "ytknbglcmjggkjaa", sum := "198b30fbb323d864a7f1d7eb4ab1c252aefd64d346ccf6bc6433bdbf6008f0c4", func := "obelus/obeluslaw06.CollateLong", spec := "collateLong", inPlace := ["internal/bytealg.abigen_runtime_cmpstring"], unfollowed := true, recurses := true, apart := false }
def CollateLongSaid : Prop := collateLongRow.holds Try.pinned (OpenSpec.ofChange collateLongSpec)

/-- ITS FALSE NEIGHBOUR: 'it returns false'. Refute it at one input. -/
def collateLongWrong : ChangeSpec := { name := "collateLong", fn := fun _ => fun
  | [d1, d2] => { results := [.lit (.bool false)], args := [d1, d2] }
  | _ => none }
def CollateLongWrongFalsely : Prop := collateLongRow.holds Try.pinned (OpenSpec.ofChange collateLongWrong)

/- THE SECOND FORM. 'bulk': how many values and letters a reading holds, each counted each time it is reached (what is shared counts as often as it is met; a slice's spare places count too). A statement '..UptoSaid' is the law's where the arguments, and the package variables that the reading takes, are together of bulk at most 1048576: NARROWER than '..Said'. Prove '..Said' where nothing that the law and all that it calls make is longer than what came in: it says more and counts as full. Else prove '..UptoSaid'. A law counts once. -/
mutual
def uptoBulk {H : Type} : DataW H → Nat
  | .lit (.string bytes) => bytes.length + 1
  | .lit _ => 1
  | .nil => 1
  | .ptr d => uptoBulk d + 1
  | .slice elems spare => uptoBulkAll elems + uptoBulkAll spare + 1
  | .agg parts => uptoBulkAll parts + 1
  | .iface _ d => uptoBulk d + 1
  | .map entries => uptoBulkEntries entries + 1
  | .held _ => 1
def uptoBulkAll {H : Type} : List (DataW H) → Nat
  | [] => 0
  | d :: r => uptoBulk d + uptoBulkAll r
def uptoBulkEntries {H : Type} : List (Lit × DataW H) → Nat
  | [] => 0
  | x :: r => uptoBulkEntry x + uptoBulkEntries r
def uptoBulkEntry {H : Type} : Lit × DataW H → Nat
  | (.string bytes, d) => bytes.length + uptoBulk d + 1
  | (_, d) => uptoBulk d + 1
 end
def uptoSmall : (H : Type) → List (DataW H) → Bool := fun _ ds => decide (uptoBulkAll ds ≤ 1048576)
def OpenSpec.upto (s : _root_.Go.ChangeSpec) : _root_.Go.OpenSpec := { _root_.Go.OpenSpec.ofChange s with cond := some uptoSmall }

/-- 'obeluslaw06.CollateElements', WHERE WHAT IT READS IS OF BULK AT MOST 1048576: true; the input reads as it did. -/
def collateElementsUptoRow : OpenClaim := { program := "ytknbglcmjggkjaa", sum := "198b30fbb323d864a7f1d7eb4ab1c252aefd64d346ccf6bc6433bdbf6008f0c4", func := "obelus/obeluslaw06.CollateElements", spec := "collateElements", inPlace := ["internal/bytealg.abigen_runtime_cmpstring"], unfollowed := true, recurses := true, apart := false, narrowed := true }
def CollateElementsUptoSaid : Prop := collateElementsUptoRow.holds Try.pinned (OpenSpec.upto collateElementsSpec)

/-- 'obeluslaw06.CollateKeys', WHERE WHAT IT READS IS OF BULK AT MOST 1048576: true; the input reads as it did. -/
def collateKeysUptoRow : OpenClaim := { program := "ytknbglcmjggkjaa", sum := "198b30fbb323d864a7f1d7eb4ab1c252aefd64d346ccf6bc6433bdbf6008f0c4", func := "obelus/obeluslaw06.CollateKeys", spec := "collateKeys", inPlace := ["internal/bytealg.abigen_runtime_cmpstring"], unfollowed := true, recurses := true, apart := false, narrowed := true }
def CollateKeysUptoSaid : Prop := collateKeysUptoRow.holds Try.pinned (OpenSpec.upto collateKeysSpec)

/-- 'obeluslaw06.CollateCompares', WHERE WHAT IT READS IS OF BULK AT MOST 1048576: true; the input reads as it did. -/
def collateComparesUptoRow : OpenClaim := { program := "ytknbglcmjggkjaa", sum := "198b30fbb323d864a7f1d7eb4ab1c252aefd64d346ccf6bc6433bdbf6008f0c4", func := "obelus/obeluslaw06.CollateCompares", spec := "collateCompares", inPlace := ["internal/bytealg.abigen_runtime_cmpstring"], unfollowed := true, recurses := true, apart := false, narrowed := true }
def CollateComparesUptoSaid : Prop := collateComparesUptoRow.holds Try.pinned (OpenSpec.upto collateComparesSpec)

/-- 'obeluslaw06.CollateOrders', WHERE WHAT IT READS IS OF BULK AT MOST 1048576: true; the input reads as it did. -/
def collateOrdersUptoRow : OpenClaim := { program := "ytknbglcmjggkjaa", sum := "198b30fbb323d864a7f1d7eb4ab1c252aefd64d346ccf6bc6433bdbf6008f0c4", func := "obelus/obeluslaw06.CollateOrders", spec := "collateOrders", inPlace := ["internal/bytealg.abigen_runtime_cmpstring"], unfollowed := true, recurses := true, apart := false, narrowed := true }
def CollateOrdersUptoSaid : Prop := collateOrdersUptoRow.holds Try.pinned (OpenSpec.upto collateOrdersSpec)

/-- 'obeluslaw06.CollateStrengths', WHERE WHAT IT READS IS OF BULK AT MOST 1048576: true; the input reads as it did. -/
def collateStrengthsUptoRow : OpenClaim := { program := "ytknbglcmjggkjaa", sum := "198b30fbb323d864a7f1d7eb4ab1c252aefd64d346ccf6bc6433bdbf6008f0c4", func := "obelus/obeluslaw06.CollateStrengths", spec := "collateStrengths", inPlace := ["internal/bytealg.abigen_runtime_cmpstring"], unfollowed := true, recurses := true, apart := false, narrowed := true }
def CollateStrengthsUptoSaid : Prop := collateStrengthsUptoRow.holds Try.pinned (OpenSpec.upto collateStrengthsSpec)

/-- 'obeluslaw06.CollateNumbers', WHERE WHAT IT READS IS OF BULK AT MOST 1048576: true; the input reads as it did. -/
def collateNumbersUptoRow : OpenClaim := { program := "ytknbglcmjggkjaa", sum := "198b30fbb323d864a7f1d7eb4ab1c252aefd64d346ccf6bc6433bdbf6008f0c4", func := "obelus/obeluslaw06.CollateNumbers", spec := "collateNumbers", inPlace := ["internal/bytealg.abigen_runtime_cmpstring"], unfollowed := true, recurses := true, apart := false, narrowed := true }
def CollateNumbersUptoSaid : Prop := collateNumbersUptoRow.holds Try.pinned (OpenSpec.upto collateNumbersSpec)

/-- 'obeluslaw06.CollateMarks', WHERE WHAT IT READS IS OF BULK AT MOST 1048576: true; the input reads as it did. -/
def collateMarksUptoRow : OpenClaim := { program := "ytknbglcmjggkjaa", sum := "198b30fbb323d864a7f1d7eb4ab1c252aefd64d346ccf6bc6433bdbf6008f0c4", func := "obelus/obeluslaw06.CollateMarks", spec := "collateMarks", inPlace := ["internal/bytealg.abigen_runtime_cmpstring"], unfollowed := true, recurses := true, apart := false, narrowed := true }
def CollateMarksUptoSaid : Prop := collateMarksUptoRow.holds Try.pinned (OpenSpec.upto collateMarksSpec)

/-- 'obeluslaw06.CollateSorts', WHERE WHAT IT READS IS OF BULK AT MOST 1048576: true; the input reads as it did. -/
def collateSortsUptoRow : OpenClaim := { program := "ytknbglcmjggkjaa", sum := "198b30fbb323d864a7f1d7eb4ab1c252aefd64d346ccf6bc6433bdbf6008f0c4", func := "obelus/obeluslaw06.CollateSorts", spec := "collateSorts", inPlace := ["internal/bytealg.abigen_runtime_cmpstring"], unfollowed := true, recurses := true, apart := false, narrowed := true }
def CollateSortsUptoSaid : Prop := collateSortsUptoRow.holds Try.pinned (OpenSpec.upto collateSortsSpec)

/-- 'obeluslaw06.CollatePrefixes', WHERE WHAT IT READS IS OF BULK AT MOST 1048576: true; the input reads as it did. -/
def collatePrefixesUptoRow : OpenClaim := { program := "ytknbglcmjggkjaa", sum := "198b30fbb323d864a7f1d7eb4ab1c252aefd64d346ccf6bc6433bdbf6008f0c4", func := "obelus/obeluslaw06.CollatePrefixes", spec := "collatePrefixes", inPlace := ["internal/bytealg.abigen_runtime_cmpstring"], unfollowed := true, recurses := true, apart := false, narrowed := true }
def CollatePrefixesUptoSaid : Prop := collatePrefixesUptoRow.holds Try.pinned (OpenSpec.upto collatePrefixesSpec)

/-- 'obeluslaw06.CollateInitials', WHERE WHAT IT READS IS OF BULK AT MOST 1048576: true; the input reads as it did. -/
def collateInitialsUptoRow : OpenClaim := { program := "ytknbglcmjggkjaa", sum := "198b30fbb323d864a7f1d7eb4ab1c252aefd64d346ccf6bc6433bdbf6008f0c4", func := "obelus/obeluslaw06.CollateInitials", spec := "collateInitials", inPlace := ["internal/bytealg.abigen_runtime_cmpstring"], unfollowed := true, recurses := true, apart := false, narrowed := true }
def CollateInitialsUptoSaid : Prop := collateInitialsUptoRow.holds Try.pinned (OpenSpec.upto collateInitialsSpec)

/-- 'obeluslaw06.CollateLong', WHERE WHAT IT READS IS OF BULK AT MOST 1048576: true; the input reads as it did. -/
def collateLongUptoRow : OpenClaim := { program := "ytknbglcmjggkjaa", sum := "198b30fbb323d864a7f1d7eb4ab1c252aefd64d346ccf6bc6433bdbf6008f0c4", func := "obelus/obeluslaw06.CollateLong", spec := "collateLong", inPlace := ["internal/bytealg.abigen_runtime_cmpstring"], unfollowed := true, recurses := true, apart := false, narrowed := true }
def CollateLongUptoSaid : Prop := collateLongUptoRow.holds Try.pinned (OpenSpec.upto collateLongSpec)

end Rows
end Go.Proofs.Ytknbglcmjggkjaa
