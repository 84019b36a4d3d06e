/-
  No cell of these rows narrows 'for every input' (looked for: loops, veiled, ifaces, maps, wideKeys, modest, calm, conditions, laid).
  DERIVED. THE GIVEN ROWS OF THIS SEAT. 11 by the template 'for every input the law returns true; each argument reads behind the call as it read before'; 0 by the template 'total and deterministic' (their statements: YtojeendofpallaaTotals.lean).
  GIVEN WITH THE SEED: the statements are not yours to turn. If you find one false, say at which input.
  Laid BY PROGRAM, IN A SANDBOX (cutbox-rows.mjs): the forced cells as the released guide's own fill.sh prints them over the translation 84e427d02ef35ded… (all of the seat's roots in one cut). By AI agents, Wed Nov 11 2026. No macro, syntax, notation, axiom, sorry.
-/
import Derived.Test.YtojeendofpallaaChecked
import GoSem.Claim
import GoSem.ClaimJoined
import GoSem.ClaimMapViews
import Derived.JoinedTies
import Derived.KernelRfl
namespace Go.Proofs.Ytojeendofpallaa
/- THE CELL 'sum', in the pinned program and in every row, IS THE sha256 OF THE DUMP (.gsa) THAT YtojeendofpallaaProg.lean LOADS. Nothing in Lean hashes anything: it is a label: what it is worth is what the hold of that sum in a sandbox is worth. -/
noncomputable def Try.pinned : Pinned := { name := "ytojeendofpallaa", sum := "84e427d02ef35ded474bbdbe33e56b73c04de0cafa535017a227b34f1e919ceb", checked := Try.checked }
namespace Rows
def none {H : Type} : Left H := { results := [], args := [] }

/-- 'dataenclavelaw28.CellsAnswers': WHATEVER THE INPUT: true; the input reads as it did. -/
def cellsAnswersSpec : ChangeSpec := { name := "cellsAnswers", fn := fun _ => fun
  | [d1, d2, d3, d4, d5, d6] => { results := [.lit (.bool true)], args := [d1, d2, d3, d4, d5, d6] }
  | _ => none }
def cellsAnswersRow : OpenClaim := { program := "ytojeendofpallaa", sum := "84e427d02ef35ded474bbdbe33e56b73c04de0cafa535017a227b34f1e919ceb", func := "dataenclave/dataenclavelaw28.CellsAnswers", spec := "cellsAnswers", unfollowed := true, recurses := true, apart := false }
def CellsAnswersSaid : Prop := cellsAnswersRow.holds Try.pinned (OpenSpec.ofChange cellsAnswersSpec)

/-- ITS FALSE NEIGHBOUR: 'it returns false'. Refute it at one input. -/
def cellsAnswersWrong : ChangeSpec := { name := "cellsAnswers", fn := fun _ => fun
  | [d1, d2, d3, d4, d5, d6] => { results := [.lit (.bool false)], args := [d1, d2, d3, d4, d5, d6] }
  | _ => none }
def CellsAnswersWrongFalsely : Prop := cellsAnswersRow.holds Try.pinned (OpenSpec.ofChange cellsAnswersWrong)

/-- 'dataenclavelaw28.CellsBack': WHATEVER THE INPUT: true; the input reads as it did. -/
def cellsBackSpec : ChangeSpec := { name := "cellsBack", fn := fun _ => fun
  | [d] => { results := [.lit (.bool true)], args := [d] }
  | _ => none }
def cellsBackRow : OpenClaim := { program := "ytojeendofpallaa", sum := "84e427d02ef35ded474bbdbe33e56b73c04de0cafa535017a227b34f1e919ceb", func := "dataenclave/dataenclavelaw28.CellsBack", spec := "cellsBack", unfollowed := true, recurses := true, apart := false }
def CellsBackSaid : Prop := cellsBackRow.holds Try.pinned (OpenSpec.ofChange cellsBackSpec)

/-- ITS FALSE NEIGHBOUR: 'it returns false'. Refute it at one input. -/
def cellsBackWrong : ChangeSpec := { name := "cellsBack", fn := fun _ => fun
  | [d] => { results := [.lit (.bool false)], args := [d] }
  | _ => none }
def CellsBackWrongFalsely : Prop := cellsBackRow.holds Try.pinned (OpenSpec.ofChange cellsBackWrong)

/-- 'dataenclavelaw28.CellsDivide': WHATEVER THE INPUT: true; the input reads as it did. -/
def cellsDivideSpec : ChangeSpec := { name := "cellsDivide", fn := fun _ => fun
  | [d] => { results := [.lit (.bool true)], args := [d] }
  | _ => none }
def cellsDivideRow : OpenClaim := { program := "ytojeendofpallaa", sum := "84e427d02ef35ded474bbdbe33e56b73c04de0cafa535017a227b34f1e919ceb", func := "dataenclave/dataenclavelaw28.CellsDivide", spec := "cellsDivide", unfollowed := true, recurses := true, apart := false }
def CellsDivideSaid : Prop := cellsDivideRow.holds Try.pinned (OpenSpec.ofChange cellsDivideSpec)

/-- ITS FALSE NEIGHBOUR: 'it returns false'. Refute it at one input. -/
def cellsDivideWrong : ChangeSpec := { name := "cellsDivide", fn := fun _ => fun
  | [d] => { results := [.lit (.bool false)], args := [d] }
  | _ => none }
def CellsDivideWrongFalsely : Prop := cellsDivideRow.holds Try.pinned (OpenSpec.ofChange cellsDivideWrong)

/-- 'dataenclavelaw28.CellsFiner': WHATEVER THE INPUT: true; the input reads as it did. -/
def cellsFinerSpec : ChangeSpec := { name := "cellsFiner", fn := fun _ => fun
  | [d] => { results := [.lit (.bool true)], args := [d] }
  | _ => none }
def cellsFinerRow : OpenClaim := { program := "ytojeendofpallaa", sum := "84e427d02ef35ded474bbdbe33e56b73c04de0cafa535017a227b34f1e919ceb", func := "dataenclave/dataenclavelaw28.CellsFiner", spec := "cellsFiner", unfollowed := true, recurses := true, apart := false }
def CellsFinerSaid : Prop := cellsFinerRow.holds Try.pinned (OpenSpec.ofChange cellsFinerSpec)

/-- ITS FALSE NEIGHBOUR: 'it returns false'. Refute it at one input. -/
def cellsFinerWrong : ChangeSpec := { name := "cellsFiner", fn := fun _ => fun
  | [d] => { results := [.lit (.bool false)], args := [d] }
  | _ => none }
def CellsFinerWrongFalsely : Prop := cellsFinerRow.holds Try.pinned (OpenSpec.ofChange cellsFinerWrong)

/-- 'dataenclavelaw28.CellsOrder': WHATEVER THE INPUT: true; the input reads as it did. -/
def cellsOrderSpec : ChangeSpec := { name := "cellsOrder", fn := fun _ => fun
  | [d] => { results := [.lit (.bool true)], args := [d] }
  | _ => none }
def cellsOrderRow : OpenClaim := { program := "ytojeendofpallaa", sum := "84e427d02ef35ded474bbdbe33e56b73c04de0cafa535017a227b34f1e919ceb", func := "dataenclave/dataenclavelaw28.CellsOrder", spec := "cellsOrder", unfollowed := true, recurses := true, apart := false }
def CellsOrderSaid : Prop := cellsOrderRow.holds Try.pinned (OpenSpec.ofChange cellsOrderSpec)

/-- ITS FALSE NEIGHBOUR: 'it returns false'. Refute it at one input. -/
def cellsOrderWrong : ChangeSpec := { name := "cellsOrder", fn := fun _ => fun
  | [d] => { results := [.lit (.bool false)], args := [d] }
  | _ => none }
def CellsOrderWrongFalsely : Prop := cellsOrderRow.holds Try.pinned (OpenSpec.ofChange cellsOrderWrong)

/-- 'dataenclavelaw28.CellsSum': WHATEVER THE INPUT: true; the input reads as it did. -/
def cellsSumSpec : ChangeSpec := { name := "cellsSum", fn := fun _ => fun
  | [d] => { results := [.lit (.bool true)], args := [d] }
  | _ => none }
def cellsSumRow : OpenClaim := { program := "ytojeendofpallaa", sum := "84e427d02ef35ded474bbdbe33e56b73c04de0cafa535017a227b34f1e919ceb", func := "dataenclave/dataenclavelaw28.CellsSum", spec := "cellsSum", unfollowed := true, recurses := true, apart := false }
def CellsSumSaid : Prop := cellsSumRow.holds Try.pinned (OpenSpec.ofChange cellsSumSpec)

/-- ITS FALSE NEIGHBOUR: 'it returns false'. Refute it at one input. -/
def cellsSumWrong : ChangeSpec := { name := "cellsSum", fn := fun _ => fun
  | [d] => { results := [.lit (.bool false)], args := [d] }
  | _ => none }
def CellsSumWrongFalsely : Prop := cellsSumRow.holds Try.pinned (OpenSpec.ofChange cellsSumWrong)

/-- 'dataenclavelaw38.RegisterAnswers': WHATEVER THE INPUT: true; the input reads as it did. -/
def registerAnswersSpec : ChangeSpec := { name := "registerAnswers", fn := fun _ => fun
  | [d1, d2, d3, d4, d5, d6, d7, d8, d9] => { results := [.lit (.bool true)], args := [d1, d2, d3, d4, d5, d6, d7, d8, d9] }
  | _ => none }
def registerAnswersRow : OpenClaim := { program := "ytojeendofpallaa", sum := "84e427d02ef35ded474bbdbe33e56b73c04de0cafa535017a227b34f1e919ceb", func := "dataenclave/dataenclavelaw38.RegisterAnswers", spec := "registerAnswers", unfollowed := true, recurses := true, apart := false }
def RegisterAnswersSaid : Prop := registerAnswersRow.holds Try.pinned (OpenSpec.ofChange registerAnswersSpec)

/-- ITS FALSE NEIGHBOUR: 'it returns false'. Refute it at one input. -/
def registerAnswersWrong : ChangeSpec := { name := "registerAnswers", fn := fun _ => fun
  | [d1, d2, d3, d4, d5, d6, d7, d8, d9] => { results := [.lit (.bool false)], args := [d1, d2, d3, d4, d5, d6, d7, d8, d9] }
  | _ => none }
def RegisterAnswersWrongFalsely : Prop := registerAnswersRow.holds Try.pinned (OpenSpec.ofChange registerAnswersWrong)

/-- 'dataenclavelaw38.RegisterChain': WHATEVER THE INPUT: true; the input reads as it did. -/
def registerChainSpec : ChangeSpec := { name := "registerChain", fn := fun _ => fun
  | [d1, d2, d3] => { results := [.lit (.bool true)], args := [d1, d2, d3] }
  | _ => none }
def registerChainRow : OpenClaim := { program := "ytojeendofpallaa", sum := "84e427d02ef35ded474bbdbe33e56b73c04de0cafa535017a227b34f1e919ceb", func := "dataenclave/dataenclavelaw38.RegisterChain", spec := "registerChain", unfollowed := true, recurses := true, apart := false }
def RegisterChainSaid : Prop := registerChainRow.holds Try.pinned (OpenSpec.ofChange registerChainSpec)

/-- ITS FALSE NEIGHBOUR: 'it returns false'. Refute it at one input. -/
def registerChainWrong : ChangeSpec := { name := "registerChain", fn := fun _ => fun
  | [d1, d2, d3] => { results := [.lit (.bool false)], args := [d1, d2, d3] }
  | _ => none }
def RegisterChainWrongFalsely : Prop := registerChainRow.holds Try.pinned (OpenSpec.ofChange registerChainWrong)

/-- 'dataenclavelaw38.RegisterForce': WHATEVER THE INPUT: true; the input reads as it did. -/
def registerForceSpec : ChangeSpec := { name := "registerForce", fn := fun _ => fun
  | [d] => { results := [.lit (.bool true)], args := [d] }
  | _ => none }
def registerForceRow : OpenClaim := { program := "ytojeendofpallaa", sum := "84e427d02ef35ded474bbdbe33e56b73c04de0cafa535017a227b34f1e919ceb", func := "dataenclave/dataenclavelaw38.RegisterForce", spec := "registerForce", unfollowed := true, recurses := true, apart := false }
def RegisterForceSaid : Prop := registerForceRow.holds Try.pinned (OpenSpec.ofChange registerForceSpec)

/-- ITS FALSE NEIGHBOUR: 'it returns false'. Refute it at one input. -/
def registerForceWrong : ChangeSpec := { name := "registerForce", fn := fun _ => fun
  | [d] => { results := [.lit (.bool false)], args := [d] }
  | _ => none }
def RegisterForceWrongFalsely : Prop := registerForceRow.holds Try.pinned (OpenSpec.ofChange registerForceWrong)

/-- 'dataenclavelaw38.RegisterLine': WHATEVER THE INPUT: true; the input reads as it did. -/
def registerLineSpec : ChangeSpec := { name := "registerLine", fn := fun _ => fun
  | [d] => { results := [.lit (.bool true)], args := [d] }
  | _ => none }
def registerLineRow : OpenClaim := { program := "ytojeendofpallaa", sum := "84e427d02ef35ded474bbdbe33e56b73c04de0cafa535017a227b34f1e919ceb", func := "dataenclave/dataenclavelaw38.RegisterLine", spec := "registerLine", unfollowed := true, recurses := true, apart := false }
def RegisterLineSaid : Prop := registerLineRow.holds Try.pinned (OpenSpec.ofChange registerLineSpec)

/-- ITS FALSE NEIGHBOUR: 'it returns false'. Refute it at one input. -/
def registerLineWrong : ChangeSpec := { name := "registerLine", fn := fun _ => fun
  | [d] => { results := [.lit (.bool false)], args := [d] }
  | _ => none }
def RegisterLineWrongFalsely : Prop := registerLineRow.holds Try.pinned (OpenSpec.ofChange registerLineWrong)

/-- 'dataenclavelaw38.RegisterRefuses': WHATEVER THE INPUT: true; the input reads as it did. -/
def registerRefusesSpec : ChangeSpec := { name := "registerRefuses", fn := fun _ => fun
  | [d1, d2, d3] => { results := [.lit (.bool true)], args := [d1, d2, d3] }
  | _ => none }
def registerRefusesRow : OpenClaim := { program := "ytojeendofpallaa", sum := "84e427d02ef35ded474bbdbe33e56b73c04de0cafa535017a227b34f1e919ceb", func := "dataenclave/dataenclavelaw38.RegisterRefuses", spec := "registerRefuses", unfollowed := true, recurses := true, apart := false }
def RegisterRefusesSaid : Prop := registerRefusesRow.holds Try.pinned (OpenSpec.ofChange registerRefusesSpec)

/-- ITS FALSE NEIGHBOUR: 'it returns false'. Refute it at one input. -/
def registerRefusesWrong : ChangeSpec := { name := "registerRefuses", fn := fun _ => fun
  | [d1, d2, d3] => { results := [.lit (.bool false)], args := [d1, d2, d3] }
  | _ => none }
def RegisterRefusesWrongFalsely : Prop := registerRefusesRow.holds Try.pinned (OpenSpec.ofChange registerRefusesWrong)

/- THE SECOND FORM. 'bulk': how many values and letters a reading holds, each counted each time it is reached (what is shared counts as often as it is met; a slice's spare places count too). A statement '..UptoSaid' is the law's where the arguments, and the package variables that the reading takes, are together of bulk at most 1048576: NARROWER than '..Said'. Prove '..Said' where nothing that the law and all that it calls make is longer than what came in: it says more and counts as full. Else prove '..UptoSaid'. A law counts once. -/
mutual
def uptoBulk {H : Type} : DataW H → Nat
  | .lit (.string bytes) => bytes.length + 1
  | .lit _ => 1
  | .nil => 1
  | .ptr d => uptoBulk d + 1
  | .slice elems spare => uptoBulkAll elems + uptoBulkAll spare + 1
  | .agg parts => uptoBulkAll parts + 1
  | .iface _ d => uptoBulk d + 1
  | .map entries => uptoBulkEntries entries + 1
  | .held _ => 1
def uptoBulkAll {H : Type} : List (DataW H) → Nat
  | [] => 0
  | d :: r => uptoBulk d + uptoBulkAll r
def uptoBulkEntries {H : Type} : List (Lit × DataW H) → Nat
  | [] => 0
  | x :: r => uptoBulkEntry x + uptoBulkEntries r
def uptoBulkEntry {H : Type} : Lit × DataW H → Nat
  | (.string bytes, d) => bytes.length + uptoBulk d + 1
  | (_, d) => uptoBulk d + 1
 end
def uptoSmall : (H : Type) → List (DataW H) → Bool := fun _ ds => decide (uptoBulkAll ds ≤ 1048576)
def OpenSpec.upto (s : _root_.Go.ChangeSpec) : _root_.Go.OpenSpec := { _root_.Go.OpenSpec.ofChange s with cond := some uptoSmall }

/-- 'dataenclavelaw28.CellsAnswers', WHERE WHAT IT READS IS OF BULK AT MOST 1048576: true; the input reads as it did. -/
def cellsAnswersUptoRow : OpenClaim := { program := "ytojeendofpallaa", sum := "84e427d02ef35ded474bbdbe33e56b73c04de0cafa535017a227b34f1e919ceb", func := "dataenclave/dataenclavelaw28.CellsAnswers", spec := "cellsAnswers", unfollowed := true, recurses := true, apart := false, narrowed := true }
def CellsAnswersUptoSaid : Prop := cellsAnswersUptoRow.holds Try.pinned (OpenSpec.upto cellsAnswersSpec)

/-- 'dataenclavelaw28.CellsBack', WHERE WHAT IT READS IS OF BULK AT MOST 1048576: true; the input reads as it did. -/
def cellsBackUptoRow : OpenClaim := { program := "ytojeendofpallaa", sum := "84e427d02ef35ded474bbdbe33e56b73c04de0cafa535017a227b34f1e919ceb", func := "dataenclave/dataenclavelaw28.CellsBack", spec := "cellsBack", unfollowed := true, recurses := true, apart := false, narrowed := true }
def CellsBackUptoSaid : Prop := cellsBackUptoRow.holds Try.pinned (OpenSpec.upto cellsBackSpec)

/-- 'dataenclavelaw28.CellsDivide', WHERE WHAT IT READS IS OF BULK AT MOST 1048576: true; the input reads as it did. -/
def cellsDivideUptoRow : OpenClaim := { program := "ytojeendofpallaa", sum := "84e427d02ef35ded474bbdbe33e56b73c04de0cafa535017a227b34f1e919ceb", func := "dataenclave/dataenclavelaw28.CellsDivide", spec := "cellsDivide", unfollowed := true, recurses := true, apart := false, narrowed := true }
def CellsDivideUptoSaid : Prop := cellsDivideUptoRow.holds Try.pinned (OpenSpec.upto cellsDivideSpec)

/-- 'dataenclavelaw28.CellsFiner', WHERE WHAT IT READS IS OF BULK AT MOST 1048576: true; the input reads as it did. -/
def cellsFinerUptoRow : OpenClaim := { program := "ytojeendofpallaa", sum := "84e427d02ef35ded474bbdbe33e56b73c04de0cafa535017a227b34f1e919ceb", func := "dataenclave/dataenclavelaw28.CellsFiner", spec := "cellsFiner", unfollowed := true, recurses := true, apart := false, narrowed := true }
def CellsFinerUptoSaid : Prop := cellsFinerUptoRow.holds Try.pinned (OpenSpec.upto cellsFinerSpec)

/-- 'dataenclavelaw28.CellsOrder', WHERE WHAT IT READS IS OF BULK AT MOST 1048576: true; the input reads as it did. -/
def cellsOrderUptoRow : OpenClaim := { program := "ytojeendofpallaa", sum := "84e427d02ef35ded474bbdbe33e56b73c04de0cafa535017a227b34f1e919ceb", func := "dataenclave/dataenclavelaw28.CellsOrder", spec := "cellsOrder", unfollowed := true, recurses := true, apart := false, narrowed := true }
def CellsOrderUptoSaid : Prop := cellsOrderUptoRow.holds Try.pinned (OpenSpec.upto cellsOrderSpec)

/-- 'dataenclavelaw28.CellsSum', WHERE WHAT IT READS IS OF BULK AT MOST 1048576: true; the input reads as it did. -/
def cellsSumUptoRow : OpenClaim := { program := "ytojeendofpallaa", sum := "84e427d02ef35ded474bbdbe33e56b73c04de0cafa535017a227b34f1e919ceb", func := "dataenclave/dataenclavelaw28.CellsSum", spec := "cellsSum", unfollowed := true, recurses := true, apart := false, narrowed := true }
def CellsSumUptoSaid : Prop := cellsSumUptoRow.holds Try.pinned (OpenSpec.upto cellsSumSpec)

/-- 'dataenclavelaw38.RegisterAnswers', WHERE WHAT IT READS IS OF BULK AT MOST 1048576: true; the input reads as it did. -/
def registerAnswersUptoRow : OpenClaim := { program := "ytojeendofpallaa", sum := "84e427d02ef35ded474bbdbe33e56b73c04de0cafa535017a227b34f1e919ceb", func := "dataenclave/dataenclavelaw38.RegisterAnswers", spec := "registerAnswers", unfollowed := true, recurses := true, apart := false, narrowed := true }
def RegisterAnswersUptoSaid : Prop := registerAnswersUptoRow.holds Try.pinned (OpenSpec.upto registerAnswersSpec)

/-- 'dataenclavelaw38.RegisterChain', WHERE WHAT IT READS IS OF BULK AT MOST 1048576: true; the input reads as it did. -/
def registerChainUptoRow : OpenClaim := { program := "ytojeendofpallaa", sum := "84e427d02ef35ded474bbdbe33e56b73c04de0cafa535017a227b34f1e919ceb", func := "dataenclave/dataenclavelaw38.RegisterChain", spec := "registerChain", unfollowed := true, recurses := true, apart := false, narrowed := true }
def RegisterChainUptoSaid : Prop := registerChainUptoRow.holds Try.pinned (OpenSpec.upto registerChainSpec)

/-- 'dataenclavelaw38.RegisterForce', WHERE WHAT IT READS IS OF BULK AT MOST 1048576: true; the input reads as it did. -/
def registerForceUptoRow : OpenClaim := { program := "ytojeendofpallaa", sum := "84e427d02ef35ded474bbdbe33e56b73c04de0cafa535017a227b34f1e919ceb", func := "dataenclave/dataenclavelaw38.RegisterForce", spec := "registerForce", unfollowed := true, recurses := true, apart := false, narrowed := true }
def RegisterForceUptoSaid : Prop := registerForceUptoRow.holds Try.pinned (OpenSpec.upto registerForceSpec)

/-- 'dataenclavelaw38.RegisterLine', WHERE WHAT IT READS IS OF BULK AT MOST 1048576: true; the input reads as it did. -/
def registerLineUptoRow : OpenClaim := { program := "ytojeendofpallaa", sum := "84e427d02ef35ded474bbdbe33e56b73c04de0cafa535017a227b34f1e919ceb", func := "dataenclave/dataenclavelaw38.RegisterLine", spec := "registerLine", unfollowed := true, recurses := true, apart := false, narrowed := true }
def RegisterLineUptoSaid : Prop := registerLineUptoRow.holds Try.pinned (OpenSpec.upto registerLineSpec)

/-- 'dataenclavelaw38.RegisterRefuses', WHERE WHAT IT READS IS OF BULK AT MOST 1048576: true; the input reads as it did. -/
def registerRefusesUptoRow : OpenClaim := { program := "ytojeendofpallaa", sum := "84e427d02ef35ded474bbdbe33e56b73c04de0cafa535017a227b34f1e919ceb", func := "dataenclave/dataenclavelaw38.RegisterRefuses", spec := "registerRefuses", unfollowed := true, recurses := true, apart := false, narrowed := true }
def RegisterRefusesUptoSaid : Prop := registerRefusesUptoRow.holds Try.pinned (OpenSpec.upto registerRefusesSpec)

end Rows
end Go.Proofs.Ytojeendofpallaa
