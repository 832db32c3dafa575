/-
  No cell of these rows narrows 'for every input' (looked for: loops, veiled, ifaces, maps, wideKeys, modest, calm, conditions, laid).
  DERIVED. THE GIVEN ROWS OF THIS SEAT. 8 by the template 'for every input the law returns true; each argument reads behind the call as it read before'; 0 by the template 'total and deterministic' (their statements: YticgpikpefgldaaTotals.lean).
  GIVEN WITH THE SEED: the statements are not yours to turn. If you find one false, say at which input.
  Laid BY PROGRAM, IN A SANDBOX (cutbox-rows.mjs): the forced cells as the released guide's own fill.sh prints them over the translation e1c09d1793ec6cb1… (all of the seat's roots in one cut). By AI agents, Wed Nov 11 2026. No macro, syntax, notation, axiom, sorry.
-/
import Derived.Test.YticgpikpefgldaaChecked
import GoSem.Claim
import GoSem.ClaimJoined
import GoSem.ClaimMapViews
import Derived.JoinedTies
import Derived.KernelRfl
namespace Go.Proofs.Yticgpikpefgldaa
/- THE CELL 'sum', in the pinned program and in every row, IS THE sha256 OF THE DUMP (.gsa) THAT YticgpikpefgldaaProg.lean LOADS. Nothing in Lean hashes anything: it is a label: what it is worth is what the hold of that sum in a sandbox is worth. -/
noncomputable def Try.pinned : Pinned := { name := "yticgpikpefgldaa", sum := "e1c09d1793ec6cb15abe2057ff173a88d1014e2d11c226eb12ec1646b6a834e2", checked := Try.checked }
namespace Rows
def none {H : Type} : Left H := { results := [], args := [] }

/-- 'coatchecklaw06.StackSteps': WHATEVER THE INPUT: true; the input reads as it did. -/
def stackStepsSpec : ChangeSpec := { name := "stackSteps", fn := fun _ => fun
  | [d1, d2, d3, d4, d5] => { results := [.lit (.bool true)], args := [d1, d2, d3, d4, d5] }
  | _ => none }
def stackStepsRow : OpenClaim := { program := "yticgpikpefgldaa", sum := "e1c09d1793ec6cb15abe2057ff173a88d1014e2d11c226eb12ec1646b6a834e2", func := "coatcheck/coatchecklaw06.StackSteps", spec := "stackSteps", unfollowed := true, recurses := true, apart := false }
def StackStepsSaid : Prop := stackStepsRow.holds Try.pinned (OpenSpec.ofChange stackStepsSpec)

/-- ITS FALSE NEIGHBOUR: 'it returns false'. Refute it at one input. -/
def stackStepsWrong : ChangeSpec := { name := "stackSteps", fn := fun _ => fun
  | [d1, d2, d3, d4, d5] => { results := [.lit (.bool false)], args := [d1, d2, d3, d4, d5] }
  | _ => none }
def StackStepsWrongFalsely : Prop := stackStepsRow.holds Try.pinned (OpenSpec.ofChange stackStepsWrong)

/-- 'coatchecklaw06.StackLists': WHATEVER THE INPUT: true; the input reads as it did. -/
def stackListsSpec : ChangeSpec := { name := "stackLists", fn := fun _ => fun
  | [d1, d2, d3] => { results := [.lit (.bool true)], args := [d1, d2, d3] }
  | _ => none }
def stackListsRow : OpenClaim := { program := "yticgpikpefgldaa", sum := "e1c09d1793ec6cb15abe2057ff173a88d1014e2d11c226eb12ec1646b6a834e2", func := "coatcheck/coatchecklaw06.StackLists", spec := "stackLists", unfollowed := true, recurses := true, apart := false }
def StackListsSaid : Prop := stackListsRow.holds Try.pinned (OpenSpec.ofChange stackListsSpec)

/-- ITS FALSE NEIGHBOUR: 'it returns false'. Refute it at one input. -/
def stackListsWrong : ChangeSpec := { name := "stackLists", fn := fun _ => fun
  | [d1, d2, d3] => { results := [.lit (.bool false)], args := [d1, d2, d3] }
  | _ => none }
def StackListsWrongFalsely : Prop := stackListsRow.holds Try.pinned (OpenSpec.ofChange stackListsWrong)

/-- 'coatchecklaw07.EpochSteps': WHATEVER THE INPUT: true; the input reads as it did. -/
def epochStepsSpec : ChangeSpec := { name := "epochSteps", fn := fun _ => fun
  | [d1, d2, d3, d4, d5, d6, d7] => { results := [.lit (.bool true)], args := [d1, d2, d3, d4, d5, d6, d7] }
  | _ => none }
def epochStepsRow : OpenClaim := { program := "yticgpikpefgldaa", sum := "e1c09d1793ec6cb15abe2057ff173a88d1014e2d11c226eb12ec1646b6a834e2", func := "coatcheck/coatchecklaw07.EpochSteps", spec := "epochSteps", apart := false }
def EpochStepsSaid : Prop := epochStepsRow.holds Try.pinned (OpenSpec.ofChange epochStepsSpec)

/-- ITS FALSE NEIGHBOUR: 'it returns false'. Refute it at one input. -/
def epochStepsWrong : ChangeSpec := { name := "epochSteps", fn := fun _ => fun
  | [d1, d2, d3, d4, d5, d6, d7] => { results := [.lit (.bool false)], args := [d1, d2, d3, d4, d5, d6, d7] }
  | _ => none }
def EpochStepsWrongFalsely : Prop := epochStepsRow.holds Try.pinned (OpenSpec.ofChange epochStepsWrong)

/-- 'coatchecklaw08.SlabSteps': WHATEVER THE INPUT: true; the input reads as it did. -/
def slabStepsSpec : ChangeSpec := { name := "slabSteps", fn := fun _ => fun
  | [d1, d2, d3, d4, d5] => { results := [.lit (.bool true)], args := [d1, d2, d3, d4, d5] }
  | _ => none }
def slabStepsRow : OpenClaim := { program := "yticgpikpefgldaa", sum := "e1c09d1793ec6cb15abe2057ff173a88d1014e2d11c226eb12ec1646b6a834e2", func := "coatcheck/coatchecklaw08.SlabSteps", spec := "slabSteps", apart := false }
def SlabStepsSaid : Prop := slabStepsRow.holds Try.pinned (OpenSpec.ofChange slabStepsSpec)

/-- ITS FALSE NEIGHBOUR: 'it returns false'. Refute it at one input. -/
def slabStepsWrong : ChangeSpec := { name := "slabSteps", fn := fun _ => fun
  | [d1, d2, d3, d4, d5] => { results := [.lit (.bool false)], args := [d1, d2, d3, d4, d5] }
  | _ => none }
def SlabStepsWrongFalsely : Prop := slabStepsRow.holds Try.pinned (OpenSpec.ofChange slabStepsWrong)

/-- 'coatchecklaw08.SlabTells': WHATEVER THE INPUT: true; the input reads as it did. -/
def slabTellsSpec : ChangeSpec := { name := "slabTells", fn := fun _ => fun
  | [d1, d2, d3, d4, d5] => { results := [.lit (.bool true)], args := [d1, d2, d3, d4, d5] }
  | _ => none }
def slabTellsRow : OpenClaim := { program := "yticgpikpefgldaa", sum := "e1c09d1793ec6cb15abe2057ff173a88d1014e2d11c226eb12ec1646b6a834e2", func := "coatcheck/coatchecklaw08.SlabTells", spec := "slabTells", apart := false }
def SlabTellsSaid : Prop := slabTellsRow.holds Try.pinned (OpenSpec.ofChange slabTellsSpec)

/-- ITS FALSE NEIGHBOUR: 'it returns false'. Refute it at one input. -/
def slabTellsWrong : ChangeSpec := { name := "slabTells", fn := fun _ => fun
  | [d1, d2, d3, d4, d5] => { results := [.lit (.bool false)], args := [d1, d2, d3, d4, d5] }
  | _ => none }
def SlabTellsWrongFalsely : Prop := slabTellsRow.holds Try.pinned (OpenSpec.ofChange slabTellsWrong)

/-- 'coatchecklaw09.TakeSpares': WHATEVER THE INPUT: true; the input reads as it did. -/
def takeSparesSpec : ChangeSpec := { name := "takeSpares", fn := fun _ => fun
  | [d1, d2, d3] => { results := [.lit (.bool true)], args := [d1, d2, d3] }
  | _ => none }
def takeSparesRow : OpenClaim := { program := "yticgpikpefgldaa", sum := "e1c09d1793ec6cb15abe2057ff173a88d1014e2d11c226eb12ec1646b6a834e2", func := "coatcheck/coatchecklaw09.TakeSpares", spec := "takeSpares", unfollowed := true, recurses := true, apart := false }
def TakeSparesSaid : Prop := takeSparesRow.holds Try.pinned (OpenSpec.ofChange takeSparesSpec)

/-- ITS FALSE NEIGHBOUR: 'it returns false'. Refute it at one input. -/
def takeSparesWrong : ChangeSpec := { name := "takeSpares", fn := fun _ => fun
  | [d1, d2, d3] => { results := [.lit (.bool false)], args := [d1, d2, d3] }
  | _ => none }
def TakeSparesWrongFalsely : Prop := takeSparesRow.holds Try.pinned (OpenSpec.ofChange takeSparesWrong)

/-- 'coatchecklaw11.EntrySteps': WHATEVER THE INPUT: true; the input reads as it did. -/
def entryStepsSpec : ChangeSpec := { name := "entrySteps", fn := fun _ => fun
  | [d1, d2, d3, d4, d5] => { results := [.lit (.bool true)], args := [d1, d2, d3, d4, d5] }
  | _ => none }
def entryStepsRow : OpenClaim := { program := "yticgpikpefgldaa", sum := "e1c09d1793ec6cb15abe2057ff173a88d1014e2d11c226eb12ec1646b6a834e2", func := "coatcheck/coatchecklaw11.EntrySteps", spec := "entrySteps", unfollowed := true, recurses := true, apart := false }
def EntryStepsSaid : Prop := entryStepsRow.holds Try.pinned (OpenSpec.ofChange entryStepsSpec)

/-- ITS FALSE NEIGHBOUR: 'it returns false'. Refute it at one input. -/
def entryStepsWrong : ChangeSpec := { name := "entrySteps", fn := fun _ => fun
  | [d1, d2, d3, d4, d5] => { results := [.lit (.bool false)], args := [d1, d2, d3, d4, d5] }
  | _ => none }
def EntryStepsWrongFalsely : Prop := entryStepsRow.holds Try.pinned (OpenSpec.ofChange entryStepsWrong)

/-- 'coatchecklaw11.EntryLives': WHATEVER THE INPUT: true; the input reads as it did. -/
def entryLivesSpec : ChangeSpec := { name := "entryLives", fn := fun _ => fun
  | [d1, d2, d3] => { results := [.lit (.bool true)], args := [d1, d2, d3] }
  | _ => none }
def entryLivesRow : OpenClaim := { program := "yticgpikpefgldaa", sum := "e1c09d1793ec6cb15abe2057ff173a88d1014e2d11c226eb12ec1646b6a834e2", func := "coatcheck/coatchecklaw11.EntryLives", spec := "entryLives", unfollowed := true, recurses := true, apart := false }
def EntryLivesSaid : Prop := entryLivesRow.holds Try.pinned (OpenSpec.ofChange entryLivesSpec)

/-- ITS FALSE NEIGHBOUR: 'it returns false'. Refute it at one input. -/
def entryLivesWrong : ChangeSpec := { name := "entryLives", fn := fun _ => fun
  | [d1, d2, d3] => { results := [.lit (.bool false)], args := [d1, d2, d3] }
  | _ => none }
def EntryLivesWrongFalsely : Prop := entryLivesRow.holds Try.pinned (OpenSpec.ofChange entryLivesWrong)

/- THE SECOND FORM. 'bulk': how many values and letters a reading holds, each counted each time it is reached (what is shared counts as often as it is met; a slice's spare places count too). A statement '..UptoSaid' is the law's where the arguments, and the package variables that the reading takes, are together of bulk at most 1048576: NARROWER than '..Said'. Prove '..Said' where nothing that the law and all that it calls make is longer than what came in: it says more and counts as full. Else prove '..UptoSaid'. A law counts once. -/
mutual
def uptoBulk {H : Type} : DataW H → Nat
  | .lit (.string bytes) => bytes.length + 1
  | .lit _ => 1
  | .nil => 1
  | .ptr d => uptoBulk d + 1
  | .slice elems spare => uptoBulkAll elems + uptoBulkAll spare + 1
  | .agg parts => uptoBulkAll parts + 1
  | .iface _ d => uptoBulk d + 1
  | .map entries => uptoBulkEntries entries + 1
  | .held _ => 1
def uptoBulkAll {H : Type} : List (DataW H) → Nat
  | [] => 0
  | d :: r => uptoBulk d + uptoBulkAll r
def uptoBulkEntries {H : Type} : List (Lit × DataW H) → Nat
  | [] => 0
  | x :: r => uptoBulkEntry x + uptoBulkEntries r
def uptoBulkEntry {H : Type} : Lit × DataW H → Nat
  | (.string bytes, d) => bytes.length + uptoBulk d + 1
  | (_, d) => uptoBulk d + 1
 end
def uptoSmall : (H : Type) → List (DataW H) → Bool := fun _ ds => decide (uptoBulkAll ds ≤ 1048576)
def OpenSpec.upto (s : _root_.Go.ChangeSpec) : _root_.Go.OpenSpec := { _root_.Go.OpenSpec.ofChange s with cond := some uptoSmall }

/-- 'coatchecklaw06.StackSteps', WHERE WHAT IT READS IS OF BULK AT MOST 1048576: true; the input reads as it did. -/
def stackStepsUptoRow : OpenClaim := { program := "yticgpikpefgldaa", sum := "e1c09d1793ec6cb15abe2057ff173a88d1014e2d11c226eb12ec1646b6a834e2", func := "coatcheck/coatchecklaw06.StackSteps", spec := "stackSteps", unfollowed := true, recurses := true, apart := false, narrowed := true }
def StackStepsUptoSaid : Prop := stackStepsUptoRow.holds Try.pinned (OpenSpec.upto stackStepsSpec)

/-- 'coatchecklaw06.StackLists', WHERE WHAT IT READS IS OF BULK AT MOST 1048576: true; the input reads as it did. -/
def stackListsUptoRow : OpenClaim := { program := "yticgpikpefgldaa", sum := "e1c09d1793ec6cb15abe2057ff173a88d1014e2d11c226eb12ec1646b6a834e2", func := "coatcheck/coatchecklaw06.StackLists", spec := "stackLists", unfollowed := true, recurses := true, apart := false, narrowed := true }
def StackListsUptoSaid : Prop := stackListsUptoRow.holds Try.pinned (OpenSpec.upto stackListsSpec)

/-- 'coatchecklaw07.EpochSteps', WHERE WHAT IT READS IS OF BULK AT MOST 1048576: true; the input reads as it did. -/
def epochStepsUptoRow : OpenClaim := { program := "yticgpikpefgldaa", sum := "e1c09d1793ec6cb15abe2057ff173a88d1014e2d11c226eb12ec1646b6a834e2", func := "coatcheck/coatchecklaw07.EpochSteps", spec := "epochSteps", apart := false, narrowed := true }
def EpochStepsUptoSaid : Prop := epochStepsUptoRow.holds Try.pinned (OpenSpec.upto epochStepsSpec)

/-- 'coatchecklaw08.SlabSteps', WHERE WHAT IT READS IS OF BULK AT MOST 1048576: true; the input reads as it did. -/
def slabStepsUptoRow : OpenClaim := { program := "yticgpikpefgldaa", sum := "e1c09d1793ec6cb15abe2057ff173a88d1014e2d11c226eb12ec1646b6a834e2", func := "coatcheck/coatchecklaw08.SlabSteps", spec := "slabSteps", apart := false, narrowed := true }
def SlabStepsUptoSaid : Prop := slabStepsUptoRow.holds Try.pinned (OpenSpec.upto slabStepsSpec)

/-- 'coatchecklaw08.SlabTells', WHERE WHAT IT READS IS OF BULK AT MOST 1048576: true; the input reads as it did. -/
def slabTellsUptoRow : OpenClaim := { program := "yticgpikpefgldaa", sum := "e1c09d1793ec6cb15abe2057ff173a88d1014e2d11c226eb12ec1646b6a834e2", func := "coatcheck/coatchecklaw08.SlabTells", spec := "slabTells", apart := false, narrowed := true }
def SlabTellsUptoSaid : Prop := slabTellsUptoRow.holds Try.pinned (OpenSpec.upto slabTellsSpec)

/-- 'coatchecklaw09.TakeSpares', WHERE WHAT IT READS IS OF BULK AT MOST 1048576: true; the input reads as it did. -/
def takeSparesUptoRow : OpenClaim := { program := "yticgpikpefgldaa", sum := "e1c09d1793ec6cb15abe2057ff173a88d1014e2d11c226eb12ec1646b6a834e2", func := "coatcheck/coatchecklaw09.TakeSpares", spec := "takeSpares", unfollowed := true, recurses := true, apart := false, narrowed := true }
def TakeSparesUptoSaid : Prop := takeSparesUptoRow.holds Try.pinned (OpenSpec.upto takeSparesSpec)

/-- 'coatchecklaw11.EntrySteps', WHERE WHAT IT READS IS OF BULK AT MOST 1048576: true; the input reads as it did. -/
def entryStepsUptoRow : OpenClaim := { program := "yticgpikpefgldaa", sum := "e1c09d1793ec6cb15abe2057ff173a88d1014e2d11c226eb12ec1646b6a834e2", func := "coatcheck/coatchecklaw11.EntrySteps", spec := "entrySteps", unfollowed := true, recurses := true, apart := false, narrowed := true }
def EntryStepsUptoSaid : Prop := entryStepsUptoRow.holds Try.pinned (OpenSpec.upto entryStepsSpec)

/-- 'coatchecklaw11.EntryLives', WHERE WHAT IT READS IS OF BULK AT MOST 1048576: true; the input reads as it did. -/
def entryLivesUptoRow : OpenClaim := { program := "yticgpikpefgldaa", sum := "e1c09d1793ec6cb15abe2057ff173a88d1014e2d11c226eb12ec1646b6a834e2", func := "coatcheck/coatchecklaw11.EntryLives", spec := "entryLives", unfollowed := true, recurses := true, apart := false, narrowed := true }
def EntryLivesUptoSaid : Prop := entryLivesUptoRow.holds Try.pinned (OpenSpec.upto entryLivesSpec)

end Rows
end Go.Proofs.Yticgpikpefgldaa
