/-
  No cell of these rows narrows 'for every input' (looked for: loops, veiled, ifaces, maps, wideKeys, modest, calm, conditions, laid).
  DERIVED. THE GIVEN ROWS OF THIS SEAT. 4 by the template 'for every input the law returns true; each argument reads behind the call as it read before'; 0 by the template 'total and deterministic' (their statements: YtaalgjeffidedaaTotals.lean).
  GIVEN WITH THE SEED: the statements are not yours to turn. If you find one false, say at which input.
  Laid BY PROGRAM, IN A SANDBOX (cutbox-rows.mjs): the forced cells as the released guide's own fill.sh prints them over the translation 3ccfa80ff02c5b95… (all of the seat's roots in one cut). By AI agents, Wed Nov 11 2026. No macro, syntax, notation, axiom, sorry.
-/
import Derived.Test.YtaalgjeffidedaaChecked
import GoSem.Claim
import GoSem.ClaimJoined
import GoSem.ClaimMapViews
import Derived.JoinedTies
import Derived.KernelRfl
namespace Go.Proofs.Ytaalgjeffidedaa
/- THE CELL 'sum', in the pinned program and in every row, IS THE sha256 OF THE DUMP (.gsa) THAT YtaalgjeffidedaaProg.lean LOADS. Nothing in Lean hashes anything: it is a label: what it is worth is what the hold of that sum in a sandbox is worth. -/
noncomputable def Try.pinned : Pinned := { name := "ytaalgjeffidedaa", sum := "3ccfa80ff02c5b95c9973fb932b73760f7c7b0d0522fff4cae70babac7f662d4", checked := Try.checked }
namespace Rows
def none {H : Type} : Left H := { results := [], args := [] }

/-- 'dataenclavelaw21.PlotBins': WHATEVER THE INPUT: true; the input reads as it did. -/
def plotBinsSpec : ChangeSpec := { name := "plotBins", fn := fun _ => fun
  | [d1, d2, d3] => { results := [.lit (.bool true)], args := [d1, d2, d3] }
  | _ => none }
def plotBinsRow : OpenClaim := { program := "ytaalgjeffidedaa", sum := "3ccfa80ff02c5b95c9973fb932b73760f7c7b0d0522fff4cae70babac7f662d4", func := "dataenclave/dataenclavelaw21.PlotBins", spec := "plotBins", unfollowed := true, recurses := true, apart := false }
def PlotBinsSaid : Prop := plotBinsRow.holds Try.pinned (OpenSpec.ofChange plotBinsSpec)

/-- ITS FALSE NEIGHBOUR: 'it returns false'. Refute it at one input. -/
def plotBinsWrong : ChangeSpec := { name := "plotBins", fn := fun _ => fun
  | [d1, d2, d3] => { results := [.lit (.bool false)], args := [d1, d2, d3] }
  | _ => none }
def PlotBinsWrongFalsely : Prop := plotBinsRow.holds Try.pinned (OpenSpec.ofChange plotBinsWrong)

/-- 'dataenclavelaw21.PlotAdds': WHATEVER THE INPUT: true; the input reads as it did. -/
def plotAddsSpec : ChangeSpec := { name := "plotAdds", fn := fun _ => fun
  | [d1, d2, d3] => { results := [.lit (.bool true)], args := [d1, d2, d3] }
  | _ => none }
def plotAddsRow : OpenClaim := { program := "ytaalgjeffidedaa", sum := "3ccfa80ff02c5b95c9973fb932b73760f7c7b0d0522fff4cae70babac7f662d4", func := "dataenclave/dataenclavelaw21.PlotAdds", spec := "plotAdds", unfollowed := true, recurses := true, apart := false }
def PlotAddsSaid : Prop := plotAddsRow.holds Try.pinned (OpenSpec.ofChange plotAddsSpec)

/-- ITS FALSE NEIGHBOUR: 'it returns false'. Refute it at one input. -/
def plotAddsWrong : ChangeSpec := { name := "plotAdds", fn := fun _ => fun
  | [d1, d2, d3] => { results := [.lit (.bool false)], args := [d1, d2, d3] }
  | _ => none }
def PlotAddsWrongFalsely : Prop := plotAddsRow.holds Try.pinned (OpenSpec.ofChange plotAddsWrong)

/-- 'dataenclavelaw21.PlotQuartiles': WHATEVER THE INPUT: true; the input reads as it did. -/
def plotQuartilesSpec : ChangeSpec := { name := "plotQuartiles", fn := fun _ => fun
  | [d] => { results := [.lit (.bool true)], args := [d] }
  | _ => none }
def plotQuartilesRow : OpenClaim := { program := "ytaalgjeffidedaa", sum := "3ccfa80ff02c5b95c9973fb932b73760f7c7b0d0522fff4cae70babac7f662d4", func := "dataenclave/dataenclavelaw21.PlotQuartiles", spec := "plotQuartiles", unfollowed := true, recurses := true, apart := false }
def PlotQuartilesSaid : Prop := plotQuartilesRow.holds Try.pinned (OpenSpec.ofChange plotQuartilesSpec)

/-- ITS FALSE NEIGHBOUR: 'it returns false'. Refute it at one input. -/
def plotQuartilesWrong : ChangeSpec := { name := "plotQuartiles", fn := fun _ => fun
  | [d] => { results := [.lit (.bool false)], args := [d] }
  | _ => none }
def PlotQuartilesWrongFalsely : Prop := plotQuartilesRow.holds Try.pinned (OpenSpec.ofChange plotQuartilesWrong)

/-- 'dataenclavelaw21.PlotMoves': WHATEVER THE INPUT: true; the input reads as it did. -/
def plotMovesSpec : ChangeSpec := { name := "plotMoves", fn := fun _ => fun
  | [d1, d2, d3] => { results := [.lit (.bool true)], args := [d1, d2, d3] }
  | _ => none }
def plotMovesRow : OpenClaim := { program := "ytaalgjeffidedaa", sum := "3ccfa80ff02c5b95c9973fb932b73760f7c7b0d0522fff4cae70babac7f662d4", func := "dataenclave/dataenclavelaw21.PlotMoves", spec := "plotMoves", unfollowed := true, recurses := true, apart := false }
def PlotMovesSaid : Prop := plotMovesRow.holds Try.pinned (OpenSpec.ofChange plotMovesSpec)

/-- ITS FALSE NEIGHBOUR: 'it returns false'. Refute it at one input. -/
def plotMovesWrong : ChangeSpec := { name := "plotMoves", fn := fun _ => fun
  | [d1, d2, d3] => { results := [.lit (.bool false)], args := [d1, d2, d3] }
  | _ => none }
def PlotMovesWrongFalsely : Prop := plotMovesRow.holds Try.pinned (OpenSpec.ofChange plotMovesWrong)

/- THE SECOND FORM. 'bulk': how many values and letters a reading holds, each counted each time it is reached (what is shared counts as often as it is met; a slice's spare places count too). A statement '..UptoSaid' is the law's where the arguments, and the package variables that the reading takes, are together of bulk at most 1048576: NARROWER than '..Said'. Prove '..Said' where nothing that the law and all that it calls make is longer than what came in: it says more and counts as full. Else prove '..UptoSaid'. A law counts once. -/
mutual
def uptoBulk {H : Type} : DataW H → Nat
  | .lit (.string bytes) => bytes.length + 1
  | .lit _ => 1
  | .nil => 1
  | .ptr d => uptoBulk d + 1
  | .slice elems spare => uptoBulkAll elems + uptoBulkAll spare + 1
  | .agg parts => uptoBulkAll parts + 1
  | .iface _ d => uptoBulk d + 1
  | .map entries => uptoBulkEntries entries + 1
  | .held _ => 1
def uptoBulkAll {H : Type} : List (DataW H) → Nat
  | [] => 0
  | d :: r => uptoBulk d + uptoBulkAll r
def uptoBulkEntries {H : Type} : List (Lit × DataW H) → Nat
  | [] => 0
  | x :: r => uptoBulkEntry x + uptoBulkEntries r
def uptoBulkEntry {H : Type} : Lit × DataW H → Nat
  | (.string bytes, d) => bytes.length + uptoBulk d + 1
  | (_, d) => uptoBulk d + 1
 end
def uptoSmall : (H : Type) → List (DataW H) → Bool := fun _ ds => decide (uptoBulkAll ds ≤ 1048576)
def OpenSpec.upto (s : _root_.Go.ChangeSpec) : _root_.Go.OpenSpec := { _root_.Go.OpenSpec.ofChange s with cond := some uptoSmall }

/-- 'dataenclavelaw21.PlotBins', WHERE WHAT IT READS IS OF BULK AT MOST 1048576: true; the input reads as it did. -/
def plotBinsUptoRow : OpenClaim := { program := "ytaalgjeffidedaa", sum := "3ccfa80ff02c5b95c9973fb932b73760f7c7b0d0522fff4cae70babac7f662d4", func := "dataenclave/dataenclavelaw21.PlotBins", spec := "plotBins", unfollowed := true, recurses := true, apart := false, narrowed := true }
def PlotBinsUptoSaid : Prop := plotBinsUptoRow.holds Try.pinned (OpenSpec.upto plotBinsSpec)

/-- 'dataenclavelaw21.PlotAdds', WHERE WHAT IT READS IS OF BULK AT MOST 1048576: true; the input reads as it did. -/
def plotAddsUptoRow : OpenClaim := { program := "ytaalgjeffidedaa", sum := "3ccfa80ff02c5b95c9973fb932b73760f7c7b0d0522fff4cae70babac7f662d4", func := "dataenclave/dataenclavelaw21.PlotAdds", spec := "plotAdds", unfollowed := true, recurses := true, apart := false, narrowed := true }
def PlotAddsUptoSaid : Prop := plotAddsUptoRow.holds Try.pinned (OpenSpec.upto plotAddsSpec)

/-- 'dataenclavelaw21.PlotQuartiles', WHERE WHAT IT READS IS OF BULK AT MOST 1048576: true; the input reads as it did. -/
def plotQuartilesUptoRow : OpenClaim := { program := "ytaalgjeffidedaa", sum := "3ccfa80ff02c5b95c9973fb932b73760f7c7b0d0522fff4cae70babac7f662d4", func := "dataenclave/dataenclavelaw21.PlotQuartiles", spec := "plotQuartiles", unfollowed := true, recurses := true, apart := false, narrowed := true }
def PlotQuartilesUptoSaid : Prop := plotQuartilesUptoRow.holds Try.pinned (OpenSpec.upto plotQuartilesSpec)

/-- 'dataenclavelaw21.PlotMoves', WHERE WHAT IT READS IS OF BULK AT MOST 1048576: true; the input reads as it did. -/
def plotMovesUptoRow : OpenClaim := { program := "ytaalgjeffidedaa", sum := "3ccfa80ff02c5b95c9973fb932b73760f7c7b0d0522fff4cae70babac7f662d4", func := "dataenclave/dataenclavelaw21.PlotMoves", spec := "plotMoves", unfollowed := true, recurses := true, apart := false, narrowed := true }
def PlotMovesUptoSaid : Prop := plotMovesUptoRow.holds Try.pinned (OpenSpec.upto plotMovesSpec)

end Rows
end Go.Proofs.Ytaalgjeffidedaa
