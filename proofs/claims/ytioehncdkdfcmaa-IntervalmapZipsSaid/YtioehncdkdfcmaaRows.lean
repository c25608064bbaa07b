/-
  No cell of these rows narrows 'for every input' (looked for: loops, veiled, ifaces, maps, wideKeys, modest, calm, conditions, laid).
  DERIVED. THE GIVEN ROWS OF THIS SEAT. 9 by the template 'for every input the law returns true; each argument reads behind the call as it read before'; 0 by the template 'total and deterministic' (their statements: YtioehncdkdfcmaaTotals.lean).
  GIVEN WITH THE SEED: the statements are not yours to turn. If you find one false, say at which input.
  Laid BY PROGRAM, IN A SANDBOX (cutbox-rows.mjs): the forced cells as the released guide's own fill.sh prints them over the translation f33abb093bc23401… (all of the seat's roots in one cut). By AI agents, Wed Nov 11 2026. No macro, syntax, notation, axiom, sorry.
-/
import Derived.Test.YtioehncdkdfcmaaChecked
import GoSem.Claim
import GoSem.ClaimJoined
import GoSem.ClaimMapViews
import Derived.JoinedTies
import Derived.KernelRfl
namespace Go.Proofs.Ytioehncdkdfcmaa
/- THE CELL 'sum', in the pinned program and in every row, IS THE sha256 OF THE DUMP (.gsa) THAT YtioehncdkdfcmaaProg.lean LOADS. Nothing in Lean hashes anything: it is a label: what it is worth is what the hold of that sum in a sandbox is worth. -/
noncomputable def Try.pinned : Pinned := { name := "ytioehncdkdfcmaa", sum := "f33abb093bc23401254ff69b64500bb0f18710b37a27761af47877832fe5edff", checked := Try.checked }
namespace Rows
def none {H : Type} : Left H := { results := [], args := [] }

/-- 'obeluslaw05.IntervalmapPlays': WHATEVER THE INPUT: true; the input reads as it did. -/
def intervalmapPlaysSpec : ChangeSpec := { name := "intervalmapPlays", fn := fun _ => fun
  | [d] => { results := [.lit (.bool true)], args := [d] }
  | _ => none }
def intervalmapPlaysRow : OpenClaim := { program := "ytioehncdkdfcmaa", sum := "f33abb093bc23401254ff69b64500bb0f18710b37a27761af47877832fe5edff", func := "obelus/obeluslaw05.IntervalmapPlays", spec := "intervalmapPlays", inPlace := ["slices.overlaps[obelus/intervalmap.Run]"], unfollowed := true, recurses := true, apart := false }
def IntervalmapPlaysSaid : Prop := intervalmapPlaysRow.holds Try.pinned (OpenSpec.ofChange intervalmapPlaysSpec)

/-- ITS FALSE NEIGHBOUR: 'it returns false'. Refute it at one input. -/
def intervalmapPlaysWrong : ChangeSpec := { name := "intervalmapPlays", fn := fun _ => fun
  | [d] => { results := [.lit (.bool false)], args := [d] }
  | _ => none }
def IntervalmapPlaysWrongFalsely : Prop := intervalmapPlaysRow.holds Try.pinned (OpenSpec.ofChange intervalmapPlaysWrong)

/-- 'obeluslaw05.IntervalmapRuns': WHATEVER THE INPUT: true; the input reads as it did. -/
def intervalmapRunsSpec : ChangeSpec := { name := "intervalmapRuns", fn := fun _ => fun
  | [d] => { results := [.lit (.bool true)], args := [d] }
  | _ => none }
def intervalmapRunsRow : OpenClaim := { program := "ytioehncdkdfcmaa", sum := "f33abb093bc23401254ff69b64500bb0f18710b37a27761af47877832fe5edff", func := "obelus/obeluslaw05.IntervalmapRuns", spec := "intervalmapRuns", inPlace := ["slices.overlaps[obelus/intervalmap.Run]"], unfollowed := true, recurses := true, apart := false }
def IntervalmapRunsSaid : Prop := intervalmapRunsRow.holds Try.pinned (OpenSpec.ofChange intervalmapRunsSpec)

/-- ITS FALSE NEIGHBOUR: 'it returns false'. Refute it at one input. -/
def intervalmapRunsWrong : ChangeSpec := { name := "intervalmapRuns", fn := fun _ => fun
  | [d] => { results := [.lit (.bool false)], args := [d] }
  | _ => none }
def IntervalmapRunsWrongFalsely : Prop := intervalmapRunsRow.holds Try.pinned (OpenSpec.ofChange intervalmapRunsWrong)

/-- 'obeluslaw05.IntervalmapAsks': WHATEVER THE INPUT: true; the input reads as it did. -/
def intervalmapAsksSpec : ChangeSpec := { name := "intervalmapAsks", fn := fun _ => fun
  | [d1, d2, d3] => { results := [.lit (.bool true)], args := [d1, d2, d3] }
  | _ => none }
def intervalmapAsksRow : OpenClaim := { program := "ytioehncdkdfcmaa", sum := "f33abb093bc23401254ff69b64500bb0f18710b37a27761af47877832fe5edff", func := "obelus/obeluslaw05.IntervalmapAsks", spec := "intervalmapAsks", inPlace := ["slices.overlaps[obelus/intervalmap.Run]"], unfollowed := true, recurses := true, apart := false }
def IntervalmapAsksSaid : Prop := intervalmapAsksRow.holds Try.pinned (OpenSpec.ofChange intervalmapAsksSpec)

/-- ITS FALSE NEIGHBOUR: 'it returns false'. Refute it at one input. -/
def intervalmapAsksWrong : ChangeSpec := { name := "intervalmapAsks", fn := fun _ => fun
  | [d1, d2, d3] => { results := [.lit (.bool false)], args := [d1, d2, d3] }
  | _ => none }
def IntervalmapAsksWrongFalsely : Prop := intervalmapAsksRow.holds Try.pinned (OpenSpec.ofChange intervalmapAsksWrong)

/-- 'obeluslaw05.IntervalmapTotals': WHATEVER THE INPUT: true; the input reads as it did. -/
def intervalmapTotalsSpec : ChangeSpec := { name := "intervalmapTotals", fn := fun _ => fun
  | [d1, d2, d3] => { results := [.lit (.bool true)], args := [d1, d2, d3] }
  | _ => none }
def intervalmapTotalsRow : OpenClaim := { program := "ytioehncdkdfcmaa", sum := "f33abb093bc23401254ff69b64500bb0f18710b37a27761af47877832fe5edff", func := "obelus/obeluslaw05.IntervalmapTotals", spec := "intervalmapTotals", inPlace := ["slices.overlaps[obelus/intervalmap.Run]"], unfollowed := true, recurses := true, apart := false }
def IntervalmapTotalsSaid : Prop := intervalmapTotalsRow.holds Try.pinned (OpenSpec.ofChange intervalmapTotalsSpec)

/-- ITS FALSE NEIGHBOUR: 'it returns false'. Refute it at one input. -/
def intervalmapTotalsWrong : ChangeSpec := { name := "intervalmapTotals", fn := fun _ => fun
  | [d1, d2, d3] => { results := [.lit (.bool false)], args := [d1, d2, d3] }
  | _ => none }
def IntervalmapTotalsWrongFalsely : Prop := intervalmapTotalsRow.holds Try.pinned (OpenSpec.ofChange intervalmapTotalsWrong)

/-- 'obeluslaw05.IntervalmapCommutes': WHATEVER THE INPUT: true; the input reads as it did. -/
def intervalmapCommutesSpec : ChangeSpec := { name := "intervalmapCommutes", fn := fun _ => fun
  | [d1, d2, d3] => { results := [.lit (.bool true)], args := [d1, d2, d3] }
  | _ => none }
def intervalmapCommutesRow : OpenClaim := { program := "ytioehncdkdfcmaa", sum := "f33abb093bc23401254ff69b64500bb0f18710b37a27761af47877832fe5edff", func := "obelus/obeluslaw05.IntervalmapCommutes", spec := "intervalmapCommutes", inPlace := ["slices.overlaps[obelus/intervalmap.Run]"], unfollowed := true, recurses := true, apart := false }
def IntervalmapCommutesSaid : Prop := intervalmapCommutesRow.holds Try.pinned (OpenSpec.ofChange intervalmapCommutesSpec)

/-- ITS FALSE NEIGHBOUR: 'it returns false'. Refute it at one input. -/
def intervalmapCommutesWrong : ChangeSpec := { name := "intervalmapCommutes", fn := fun _ => fun
  | [d1, d2, d3] => { results := [.lit (.bool false)], args := [d1, d2, d3] }
  | _ => none }
def IntervalmapCommutesWrongFalsely : Prop := intervalmapCommutesRow.holds Try.pinned (OpenSpec.ofChange intervalmapCommutesWrong)

/-- 'obeluslaw05.IntervalmapSplices': WHATEVER THE INPUT: true; the input reads as it did. -/
def intervalmapSplicesSpec : ChangeSpec := { name := "intervalmapSplices", fn := fun _ => fun
  | [d1, d2, d3] => { results := [.lit (.bool true)], args := [d1, d2, d3] }
  | _ => none }
def intervalmapSplicesRow : OpenClaim := { program := "ytioehncdkdfcmaa", sum := "f33abb093bc23401254ff69b64500bb0f18710b37a27761af47877832fe5edff", func := "obelus/obeluslaw05.IntervalmapSplices", spec := "intervalmapSplices", inPlace := ["slices.overlaps[obelus/intervalmap.Run]"], unfollowed := true, recurses := true, apart := false }
def IntervalmapSplicesSaid : Prop := intervalmapSplicesRow.holds Try.pinned (OpenSpec.ofChange intervalmapSplicesSpec)

/-- ITS FALSE NEIGHBOUR: 'it returns false'. Refute it at one input. -/
def intervalmapSplicesWrong : ChangeSpec := { name := "intervalmapSplices", fn := fun _ => fun
  | [d1, d2, d3] => { results := [.lit (.bool false)], args := [d1, d2, d3] }
  | _ => none }
def IntervalmapSplicesWrongFalsely : Prop := intervalmapSplicesRow.holds Try.pinned (OpenSpec.ofChange intervalmapSplicesWrong)

/-- 'obeluslaw05.IntervalmapZips': WHATEVER THE INPUT: true; the input reads as it did. -/
def intervalmapZipsSpec : ChangeSpec := { name := "intervalmapZips", fn := fun _ => fun
  | [d1, d2] => { results := [.lit (.bool true)], args := [d1, d2] }
  | _ => none }
def intervalmapZipsRow : OpenClaim := { program := "ytioehncdkdfcmaa", sum := "f33abb093bc23401254ff69b64500bb0f18710b37a27761af47877832fe5edff", func := "obelus/obeluslaw05.IntervalmapZips", spec := "intervalmapZips", inPlace := ["slices.overlaps[obelus/intervalmap.Run]"], unfollowed := true, recurses := true, apart := false }
def IntervalmapZipsSaid : Prop := intervalmapZipsRow.holds Try.pinned (OpenSpec.ofChange intervalmapZipsSpec)

/-- ITS FALSE NEIGHBOUR: 'it returns false'. Refute it at one input. -/
def intervalmapZipsWrong : ChangeSpec := { name := "intervalmapZips", fn := fun _ => fun
  | [d1, d2] => { results := [.lit (.bool false)], args := [d1, d2] }
  | _ => none }
def IntervalmapZipsWrongFalsely : Prop := intervalmapZipsRow.holds Try.pinned (OpenSpec.ofChange intervalmapZipsWrong)

/-- 'obeluslaw05.IntervalmapLimits': WHATEVER THE INPUT: true; the input reads as it did. -/
def intervalmapLimitsSpec : ChangeSpec := { name := "intervalmapLimits", fn := fun _ => fun
  | [d1, d2] => { results := [.lit (.bool true)], args := [d1, d2] }
  | _ => none }
def intervalmapLimitsRow : OpenClaim := { program := "ytioehncdkdfcmaa", sum := "f33abb093bc23401254ff69b64500bb0f18710b37a27761af47877832fe5edff", func := "obelus/obeluslaw05.IntervalmapLimits", spec := "intervalmapLimits", inPlace := ["slices.overlaps[obelus/intervalmap.Run]"], unfollowed := true, recurses := true, apart := false }
def IntervalmapLimitsSaid : Prop := intervalmapLimitsRow.holds Try.pinned (OpenSpec.ofChange intervalmapLimitsSpec)

/-- ITS FALSE NEIGHBOUR: 'it returns false'. Refute it at one input. -/
def intervalmapLimitsWrong : ChangeSpec := { name := "intervalmapLimits", fn := fun _ => fun
  | [d1, d2] => { results := [.lit (.bool false)], args := [d1, d2] }
  | _ => none }
def IntervalmapLimitsWrongFalsely : Prop := intervalmapLimitsRow.holds Try.pinned (OpenSpec.ofChange intervalmapLimitsWrong)

/-- 'obeluslaw05.IntervalmapNil': WHATEVER THE INPUT: true; the input reads as it did. -/
def intervalmapNilSpec : ChangeSpec := { name := "intervalmapNil", fn := fun _ => fun
  | [d1, d2, d3] => { results := [.lit (.bool true)], args := [d1, d2, d3] }
  | _ => none }
def intervalmapNilRow : OpenClaim := { program := "ytioehncdkdfcmaa", sum := "f33abb093bc23401254ff69b64500bb0f18710b37a27761af47877832fe5edff", func := "obelus/obeluslaw05.IntervalmapNil", spec := "intervalmapNil", inPlace := ["slices.overlaps[obelus/intervalmap.Run]"], unfollowed := true, recurses := true, apart := false }
def IntervalmapNilSaid : Prop := intervalmapNilRow.holds Try.pinned (OpenSpec.ofChange intervalmapNilSpec)

/-- ITS FALSE NEIGHBOUR: 'it returns false'. Refute it at one input. -/
def intervalmapNilWrong : ChangeSpec := { name := "intervalmapNil", fn := fun _ => fun
  | [d1, d2, d3] => { results := [.lit (.bool false)], args := [d1, d2, d3] }
  | _ => none }
def IntervalmapNilWrongFalsely : Prop := intervalmapNilRow.holds Try.pinned (OpenSpec.ofChange intervalmapNilWrong)

/- THE SECOND FORM. 'bulk': how many values and letters a reading holds, each counted each time it is reached (what is shared counts as often as it is met; a slice's spare places count too). A statement '..UptoSaid' is the law's where the arguments, and the package variables that the reading takes, are together of bulk at most 1048576: NARROWER than '..Said'. Prove '..Said' where nothing that the law and all that it calls make is longer than what came in: it says more and counts as full. Else prove '..UptoSaid'. A law counts once. -/
mutual
def uptoBulk {H : Type} : DataW H → Nat
  | .lit (.string bytes) => bytes.length + 1
  | .lit _ => 1
  | .nil => 1
  | .ptr d => uptoBulk d + 1
  | .slice elems spare => uptoBulkAll elems + uptoBulkAll spare + 1
  | .agg parts => uptoBulkAll parts + 1
  | .iface _ d => uptoBulk d + 1
  | .map entries => uptoBulkEntries entries + 1
  | .held _ => 1
def uptoBulkAll {H : Type} : List (DataW H) → Nat
  | [] => 0
  | d :: r => uptoBulk d + uptoBulkAll r
def uptoBulkEntries {H : Type} : List (Lit × DataW H) → Nat
  | [] => 0
  | x :: r => uptoBulkEntry x + uptoBulkEntries r
def uptoBulkEntry {H : Type} : Lit × DataW H → Nat
  | (.string bytes, d) => bytes.length + uptoBulk d + 1
  | (_, d) => uptoBulk d + 1
 end
def uptoSmall : (H : Type) → List (DataW H) → Bool := fun _ ds => decide (uptoBulkAll ds ≤ 1048576)
def OpenSpec.upto (s : _root_.Go.ChangeSpec) : _root_.Go.OpenSpec := { _root_.Go.OpenSpec.ofChange s with cond := some uptoSmall }

/-- 'obeluslaw05.IntervalmapPlays', WHERE WHAT IT READS IS OF BULK AT MOST 1048576: true; the input reads as it did. -/
def intervalmapPlaysUptoRow : OpenClaim := { program := "ytioehncdkdfcmaa", sum := "f33abb093bc23401254ff69b64500bb0f18710b37a27761af47877832fe5edff", func := "obelus/obeluslaw05.IntervalmapPlays", spec := "intervalmapPlays", inPlace := ["slices.overlaps[obelus/intervalmap.Run]"], unfollowed := true, recurses := true, apart := false, narrowed := true }
def IntervalmapPlaysUptoSaid : Prop := intervalmapPlaysUptoRow.holds Try.pinned (OpenSpec.upto intervalmapPlaysSpec)

/-- 'obeluslaw05.IntervalmapRuns', WHERE WHAT IT READS IS OF BULK AT MOST 1048576: true; the input reads as it did. -/
def intervalmapRunsUptoRow : OpenClaim := { program := "ytioehncdkdfcmaa", sum := "f33abb093bc23401254ff69b64500bb0f18710b37a27761af47877832fe5edff", func := "obelus/obeluslaw05.IntervalmapRuns", spec := "intervalmapRuns", inPlace := ["slices.overlaps[obelus/intervalmap.Run]"], unfollowed := true, recurses := true, apart := false, narrowed := true }
def IntervalmapRunsUptoSaid : Prop := intervalmapRunsUptoRow.holds Try.pinned (OpenSpec.upto intervalmapRunsSpec)

/-- 'obeluslaw05.IntervalmapAsks', WHERE WHAT IT READS IS OF BULK AT MOST 1048576: true; the input reads as it did. -/
def intervalmapAsksUptoRow : OpenClaim := { program := "ytioehncdkdfcmaa", sum := "f33abb093bc23401254ff69b64500bb0f18710b37a27761af47877832fe5edff", func := "obelus/obeluslaw05.IntervalmapAsks", spec := "intervalmapAsks", inPlace := ["slices.overlaps[obelus/intervalmap.Run]"], unfollowed := true, recurses := true, apart := false, narrowed := true }
def IntervalmapAsksUptoSaid : Prop := intervalmapAsksUptoRow.holds Try.pinned (OpenSpec.upto intervalmapAsksSpec)

/-- 'obeluslaw05.IntervalmapTotals', WHERE WHAT IT READS IS OF BULK AT MOST 1048576: true; the input reads as it did. -/
def intervalmapTotalsUptoRow : OpenClaim := { program := "ytioehncdkdfcmaa", sum := "f33abb093bc23401254ff69b64500bb0f18710b37a27761af47877832fe5edff", func := "obelus/obeluslaw05.IntervalmapTotals", spec := "intervalmapTotals", inPlace := ["slices.overlaps[obelus/intervalmap.Run]"], unfollowed := true, recurses := true, apart := false, narrowed := true }
def IntervalmapTotalsUptoSaid : Prop := intervalmapTotalsUptoRow.holds Try.pinned (OpenSpec.upto intervalmapTotalsSpec)

/-- 'obeluslaw05.IntervalmapCommutes', WHERE WHAT IT READS IS OF BULK AT MOST 1048576: true; the input reads as it did. -/
def intervalmapCommutesUptoRow : OpenClaim := { program := "ytioehncdkdfcmaa", sum := "f33abb093bc23401254ff69b64500bb0f18710b37a27761af47877832fe5edff", func := "obelus/obeluslaw05.IntervalmapCommutes", spec := "intervalmapCommutes", inPlace := ["slices.overlaps[obelus/intervalmap.Run]"], unfollowed := true, recurses := true, apart := false, narrowed := true }
def IntervalmapCommutesUptoSaid : Prop := intervalmapCommutesUptoRow.holds Try.pinned (OpenSpec.upto intervalmapCommutesSpec)

/-- 'obeluslaw05.IntervalmapSplices', WHERE WHAT IT READS IS OF BULK AT MOST 1048576: true; the input reads as it did. -/
def intervalmapSplicesUptoRow : OpenClaim := { program := "ytioehncdkdfcmaa", sum := "f33abb093bc23401254ff69b64500bb0f18710b37a27761af47877832fe5edff", func := "obelus/obeluslaw05.IntervalmapSplices", spec := "intervalmapSplices", inPlace := ["slices.overlaps[obelus/intervalmap.Run]"], unfollowed := true, recurses := true, apart := false, narrowed := true }
def IntervalmapSplicesUptoSaid : Prop := intervalmapSplicesUptoRow.holds Try.pinned (OpenSpec.upto intervalmapSplicesSpec)

/-- 'obeluslaw05.IntervalmapZips', WHERE WHAT IT READS IS OF BULK AT MOST 1048576: true; the input reads as it did. -/
def intervalmapZipsUptoRow : OpenClaim := { program := "ytioehncdkdfcmaa", sum := "f33abb093bc23401254ff69b64500bb0f18710b37a27761af47877832fe5edff", func := "obelus/obeluslaw05.IntervalmapZips", spec := "intervalmapZips", inPlace := ["slices.overlaps[obelus/intervalmap.Run]"], unfollowed := true, recurses := true, apart := false, narrowed := true }
def IntervalmapZipsUptoSaid : Prop := intervalmapZipsUptoRow.holds Try.pinned (OpenSpec.upto intervalmapZipsSpec)

/-- 'obeluslaw05.IntervalmapLimits', WHERE WHAT IT READS IS OF BULK AT MOST 1048576: true; the input reads as it did. -/
def intervalmapLimitsUptoRow : OpenClaim := { program := "ytioehncdkdfcmaa", sum := "f33abb093bc23401254ff69b64500bb0f18710b37a27761af47877832fe5edff", func := "obelus/obeluslaw05.IntervalmapLimits", spec := "intervalmapLimits", inPlace := ["slices.overlaps[obelus/intervalmap.Run]"], unfollowed := true, recurses := true, apart := false, narrowed := true }
def IntervalmapLimitsUptoSaid : Prop := intervalmapLimitsUptoRow.holds Try.pinned (OpenSpec.upto intervalmapLimitsSpec)

/-- 'obeluslaw05.IntervalmapNil', WHERE WHAT IT READS IS OF BULK AT MOST 1048576: true; the input reads as it did. -/
def intervalmapNilUptoRow : OpenClaim := { program := "ytioehncdkdfcmaa", sum := "f33abb093bc23401254ff69b64500bb0f18710b37a27761af47877832fe5edff", func := "obelus/obeluslaw05.IntervalmapNil", spec := "intervalmapNil", inPlace := ["slices.overlaps[obelus/intervalmap.Run]"], unfollowed := true, recurses := true, apart := false, narrowed := true }
def IntervalmapNilUptoSaid : Prop := intervalmapNilUptoRow.holds Try.pinned (OpenSpec.upto intervalmapNilSpec)

end Rows
end Go.Proofs.Ytioehncdkdfcmaa
