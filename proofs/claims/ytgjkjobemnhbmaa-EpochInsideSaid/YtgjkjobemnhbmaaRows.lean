/-
  No cell of these rows narrows 'for every input' (looked for: loops, veiled, ifaces, maps, wideKeys, modest, calm, conditions, laid).
  DERIVED. THE GIVEN ROWS OF THIS SEAT. 8 by the template 'for every input the law returns true; each argument reads behind the call as it read before'; 0 by the template 'total and deterministic' (their statements: YtgjkjobemnhbmaaTotals.lean).
  GIVEN WITH THE SEED: the statements are not yours to turn. If you find one false, say at which input.
  Laid BY PROGRAM, IN A SANDBOX (cutbox-rows.mjs): the forced cells as the released guide's own fill.sh prints them over the translation 9f8967a7faa51b47… (all of the seat's roots in one cut). By AI agents, Wed Nov 11 2026. No macro, syntax, notation, axiom, sorry.
-/
import Derived.Test.YtgjkjobemnhbmaaChecked
import GoSem.Claim
import GoSem.ClaimJoined
import GoSem.ClaimMapViews
import Derived.JoinedTies
import Derived.KernelRfl
namespace Go.Proofs.Ytgjkjobemnhbmaa
/- THE CELL 'sum', in the pinned program and in every row, IS THE sha256 OF THE DUMP (.gsa) THAT YtgjkjobemnhbmaaProg.lean LOADS. Nothing in Lean hashes anything: it is a label: what it is worth is what the hold of that sum in a sandbox is worth. -/
noncomputable def Try.pinned : Pinned := { name := "ytgjkjobemnhbmaa", sum := "9f8967a7faa51b47bddd8ebf4bf471a7dc47e2cf047e208943e800857158c2a4", checked := Try.checked }
namespace Rows
def none {H : Type} : Left H := { results := [], args := [] }

/-- 'coatchecklaw03.MemoryPlays': WHATEVER THE INPUT: true; the input reads as it did. -/
def memoryPlaysSpec : ChangeSpec := { name := "memoryPlays", fn := fun _ => fun
  | [d1, d2, d3] => { results := [.lit (.bool true)], args := [d1, d2, d3] }
  | _ => none }
def memoryPlaysRow : OpenClaim := { program := "ytgjkjobemnhbmaa", sum := "9f8967a7faa51b47bddd8ebf4bf471a7dc47e2cf047e208943e800857158c2a4", func := "coatcheck/coatchecklaw03.MemoryPlays", spec := "memoryPlays", apart := false }
def MemoryPlaysSaid : Prop := memoryPlaysRow.holds Try.pinned (OpenSpec.ofChange memoryPlaysSpec)

/-- ITS FALSE NEIGHBOUR: 'it returns false'. Refute it at one input. -/
def memoryPlaysWrong : ChangeSpec := { name := "memoryPlays", fn := fun _ => fun
  | [d1, d2, d3] => { results := [.lit (.bool false)], args := [d1, d2, d3] }
  | _ => none }
def MemoryPlaysWrongFalsely : Prop := memoryPlaysRow.holds Try.pinned (OpenSpec.ofChange memoryPlaysWrong)

/-- 'coatchecklaw06.StackSteps': WHATEVER THE INPUT: true; the input reads as it did. -/
def stackStepsSpec : ChangeSpec := { name := "stackSteps", fn := fun _ => fun
  | [d1, d2, d3, d4, d5] => { results := [.lit (.bool true)], args := [d1, d2, d3, d4, d5] }
  | _ => none }
def stackStepsRow : OpenClaim := { program := "ytgjkjobemnhbmaa", sum := "9f8967a7faa51b47bddd8ebf4bf471a7dc47e2cf047e208943e800857158c2a4", func := "coatcheck/coatchecklaw06.StackSteps", spec := "stackSteps", unfollowed := true, recurses := true, apart := false }
def StackStepsSaid : Prop := stackStepsRow.holds Try.pinned (OpenSpec.ofChange stackStepsSpec)

/-- ITS FALSE NEIGHBOUR: 'it returns false'. Refute it at one input. -/
def stackStepsWrong : ChangeSpec := { name := "stackSteps", fn := fun _ => fun
  | [d1, d2, d3, d4, d5] => { results := [.lit (.bool false)], args := [d1, d2, d3, d4, d5] }
  | _ => none }
def StackStepsWrongFalsely : Prop := stackStepsRow.holds Try.pinned (OpenSpec.ofChange stackStepsWrong)

/-- 'coatchecklaw06.StackLists': WHATEVER THE INPUT: true; the input reads as it did. -/
def stackListsSpec : ChangeSpec := { name := "stackLists", fn := fun _ => fun
  | [d1, d2, d3] => { results := [.lit (.bool true)], args := [d1, d2, d3] }
  | _ => none }
def stackListsRow : OpenClaim := { program := "ytgjkjobemnhbmaa", sum := "9f8967a7faa51b47bddd8ebf4bf471a7dc47e2cf047e208943e800857158c2a4", func := "coatcheck/coatchecklaw06.StackLists", spec := "stackLists", unfollowed := true, recurses := true, apart := false }
def StackListsSaid : Prop := stackListsRow.holds Try.pinned (OpenSpec.ofChange stackListsSpec)

/-- ITS FALSE NEIGHBOUR: 'it returns false'. Refute it at one input. -/
def stackListsWrong : ChangeSpec := { name := "stackLists", fn := fun _ => fun
  | [d1, d2, d3] => { results := [.lit (.bool false)], args := [d1, d2, d3] }
  | _ => none }
def StackListsWrongFalsely : Prop := stackListsRow.holds Try.pinned (OpenSpec.ofChange stackListsWrong)

/-- 'coatchecklaw07.EpochInside': WHATEVER THE INPUT: true; the input reads as it did. -/
def epochInsideSpec : ChangeSpec := { name := "epochInside", fn := fun _ => fun
  | [d1, d2, d3] => { results := [.lit (.bool true)], args := [d1, d2, d3] }
  | _ => none }
def epochInsideRow : OpenClaim := { program := "ytgjkjobemnhbmaa", sum := "9f8967a7faa51b47bddd8ebf4bf471a7dc47e2cf047e208943e800857158c2a4", func := "coatcheck/coatchecklaw07.EpochInside", spec := "epochInside", apart := false }
def EpochInsideSaid : Prop := epochInsideRow.holds Try.pinned (OpenSpec.ofChange epochInsideSpec)

/-- ITS FALSE NEIGHBOUR: 'it returns false'. Refute it at one input. -/
def epochInsideWrong : ChangeSpec := { name := "epochInside", fn := fun _ => fun
  | [d1, d2, d3] => { results := [.lit (.bool false)], args := [d1, d2, d3] }
  | _ => none }
def EpochInsideWrongFalsely : Prop := epochInsideRow.holds Try.pinned (OpenSpec.ofChange epochInsideWrong)

/-- 'coatchecklaw08.SlabTells': WHATEVER THE INPUT: true; the input reads as it did. -/
def slabTellsSpec : ChangeSpec := { name := "slabTells", fn := fun _ => fun
  | [d1, d2, d3, d4, d5] => { results := [.lit (.bool true)], args := [d1, d2, d3, d4, d5] }
  | _ => none }
def slabTellsRow : OpenClaim := { program := "ytgjkjobemnhbmaa", sum := "9f8967a7faa51b47bddd8ebf4bf471a7dc47e2cf047e208943e800857158c2a4", func := "coatcheck/coatchecklaw08.SlabTells", spec := "slabTells", apart := false }
def SlabTellsSaid : Prop := slabTellsRow.holds Try.pinned (OpenSpec.ofChange slabTellsSpec)

/-- ITS FALSE NEIGHBOUR: 'it returns false'. Refute it at one input. -/
def slabTellsWrong : ChangeSpec := { name := "slabTells", fn := fun _ => fun
  | [d1, d2, d3, d4, d5] => { results := [.lit (.bool false)], args := [d1, d2, d3, d4, d5] }
  | _ => none }
def SlabTellsWrongFalsely : Prop := slabTellsRow.holds Try.pinned (OpenSpec.ofChange slabTellsWrong)

/-- 'coatchecklaw11.EntryLives': WHATEVER THE INPUT: true; the input reads as it did. -/
def entryLivesSpec : ChangeSpec := { name := "entryLives", fn := fun _ => fun
  | [d1, d2, d3] => { results := [.lit (.bool true)], args := [d1, d2, d3] }
  | _ => none }
def entryLivesRow : OpenClaim := { program := "ytgjkjobemnhbmaa", sum := "9f8967a7faa51b47bddd8ebf4bf471a7dc47e2cf047e208943e800857158c2a4", func := "coatcheck/coatchecklaw11.EntryLives", spec := "entryLives", unfollowed := true, recurses := true, apart := false }
def EntryLivesSaid : Prop := entryLivesRow.holds Try.pinned (OpenSpec.ofChange entryLivesSpec)

/-- ITS FALSE NEIGHBOUR: 'it returns false'. Refute it at one input. -/
def entryLivesWrong : ChangeSpec := { name := "entryLives", fn := fun _ => fun
  | [d1, d2, d3] => { results := [.lit (.bool false)], args := [d1, d2, d3] }
  | _ => none }
def EntryLivesWrongFalsely : Prop := entryLivesRow.holds Try.pinned (OpenSpec.ofChange entryLivesWrong)

/-- 'coatchecklaw18.GuardTells': WHATEVER THE INPUT: true; the input reads as it did. -/
def guardTellsSpec : ChangeSpec := { name := "guardTells", fn := fun _ => fun
  | [d1, d2, d3] => { results := [.lit (.bool true)], args := [d1, d2, d3] }
  | _ => none }
def guardTellsRow : OpenClaim := { program := "ytgjkjobemnhbmaa", sum := "9f8967a7faa51b47bddd8ebf4bf471a7dc47e2cf047e208943e800857158c2a4", func := "coatcheck/coatchecklaw18.GuardTells", spec := "guardTells", recurses := true, apart := false }
def GuardTellsSaid : Prop := guardTellsRow.holds Try.pinned (OpenSpec.ofChange guardTellsSpec)

/-- ITS FALSE NEIGHBOUR: 'it returns false'. Refute it at one input. -/
def guardTellsWrong : ChangeSpec := { name := "guardTells", fn := fun _ => fun
  | [d1, d2, d3] => { results := [.lit (.bool false)], args := [d1, d2, d3] }
  | _ => none }
def GuardTellsWrongFalsely : Prop := guardTellsRow.holds Try.pinned (OpenSpec.ofChange guardTellsWrong)

/-- 'coatchecklaw18.GuardPayload': WHATEVER THE INPUT: true; the input reads as it did. -/
def guardPayloadSpec : ChangeSpec := { name := "guardPayload", fn := fun _ => fun
  | [d1, d2] => { results := [.lit (.bool true)], args := [d1, d2] }
  | _ => none }
def guardPayloadRow : OpenClaim := { program := "ytgjkjobemnhbmaa", sum := "9f8967a7faa51b47bddd8ebf4bf471a7dc47e2cf047e208943e800857158c2a4", func := "coatcheck/coatchecklaw18.GuardPayload", spec := "guardPayload", recurses := true, apart := false }
def GuardPayloadSaid : Prop := guardPayloadRow.holds Try.pinned (OpenSpec.ofChange guardPayloadSpec)

/-- ITS FALSE NEIGHBOUR: 'it returns false'. Refute it at one input. -/
def guardPayloadWrong : ChangeSpec := { name := "guardPayload", fn := fun _ => fun
  | [d1, d2] => { results := [.lit (.bool false)], args := [d1, d2] }
  | _ => none }
def GuardPayloadWrongFalsely : Prop := guardPayloadRow.holds Try.pinned (OpenSpec.ofChange guardPayloadWrong)

/- THE SECOND FORM. 'bulk': how many values and letters a reading holds, each counted each time it is reached (what is shared counts as often as it is met; a slice's spare places count too). A statement '..UptoSaid' is the law's where the arguments, and the package variables that the reading takes, are together of bulk at most 1048576: NARROWER than '..Said'. Prove '..Said' where nothing that the law and all that it calls make is longer than what came in: it says more and counts as full. Else prove '..UptoSaid'. A law counts once. -/
mutual
def uptoBulk {H : Type} : DataW H → Nat
  | .lit (.string bytes) => bytes.length + 1
  | .lit _ => 1
  | .nil => 1
  | .ptr d => uptoBulk d + 1
  | .slice elems spare => uptoBulkAll elems + uptoBulkAll spare + 1
  | .agg parts => uptoBulkAll parts + 1
  | .iface _ d => uptoBulk d + 1
  | .map entries => uptoBulkEntries entries + 1
  | .held _ => 1
def uptoBulkAll {H : Type} : List (DataW H) → Nat
  | [] => 0
  | d :: r => uptoBulk d + uptoBulkAll r
def uptoBulkEntries {H : Type} : List (Lit × DataW H) → Nat
  | [] => 0
  | x :: r => uptoBulkEntry x + uptoBulkEntries r
def uptoBulkEntry {H : Type} : Lit × DataW H → Nat
  | (.string bytes, d) => bytes.length + uptoBulk d + 1
  | (_, d) => uptoBulk d + 1
 end
def uptoSmall : (H : Type) → List (DataW H) → Bool := fun _ ds => decide (uptoBulkAll ds ≤ 1048576)
def OpenSpec.upto (s : _root_.Go.ChangeSpec) : _root_.Go.OpenSpec := { _root_.Go.OpenSpec.ofChange s with cond := some uptoSmall }

/-- 'coatchecklaw03.MemoryPlays', WHERE WHAT IT READS IS OF BULK AT MOST 1048576: true; the input reads as it did. -/
def memoryPlaysUptoRow : OpenClaim := { program := "ytgjkjobemnhbmaa", sum := "9f8967a7faa51b47bddd8ebf4bf471a7dc47e2cf047e208943e800857158c2a4", func := "coatcheck/coatchecklaw03.MemoryPlays", spec := "memoryPlays", apart := false, narrowed := true }
def MemoryPlaysUptoSaid : Prop := memoryPlaysUptoRow.holds Try.pinned (OpenSpec.upto memoryPlaysSpec)

/-- 'coatchecklaw06.StackSteps', WHERE WHAT IT READS IS OF BULK AT MOST 1048576: true; the input reads as it did. -/
def stackStepsUptoRow : OpenClaim := { program := "ytgjkjobemnhbmaa", sum := "9f8967a7faa51b47bddd8ebf4bf471a7dc47e2cf047e208943e800857158c2a4", func := "coatcheck/coatchecklaw06.StackSteps", spec := "stackSteps", unfollowed := true, recurses := true, apart := false, narrowed := true }
def StackStepsUptoSaid : Prop := stackStepsUptoRow.holds Try.pinned (OpenSpec.upto stackStepsSpec)

/-- 'coatchecklaw06.StackLists', WHERE WHAT IT READS IS OF BULK AT MOST 1048576: true; the input reads as it did. -/
def stackListsUptoRow : OpenClaim := { program := "ytgjkjobemnhbmaa", sum := "9f8967a7faa51b47bddd8ebf4bf471a7dc47e2cf047e208943e800857158c2a4", func := "coatcheck/coatchecklaw06.StackLists", spec := "stackLists", unfollowed := true, recurses := true, apart := false, narrowed := true }
def StackListsUptoSaid : Prop := stackListsUptoRow.holds Try.pinned (OpenSpec.upto stackListsSpec)

/-- 'coatchecklaw07.EpochInside', WHERE WHAT IT READS IS OF BULK AT MOST 1048576: true; the input reads as it did. -/
def epochInsideUptoRow : OpenClaim := { program := "ytgjkjobemnhbmaa", sum := "9f8967a7faa51b47bddd8ebf4bf471a7dc47e2cf047e208943e800857158c2a4", func := "coatcheck/coatchecklaw07.EpochInside", spec := "epochInside", apart := false, narrowed := true }
def EpochInsideUptoSaid : Prop := epochInsideUptoRow.holds Try.pinned (OpenSpec.upto epochInsideSpec)

/-- 'coatchecklaw08.SlabTells', WHERE WHAT IT READS IS OF BULK AT MOST 1048576: true; the input reads as it did. -/
def slabTellsUptoRow : OpenClaim := { program := "ytgjkjobemnhbmaa", sum := "9f8967a7faa51b47bddd8ebf4bf471a7dc47e2cf047e208943e800857158c2a4", func := "coatcheck/coatchecklaw08.SlabTells", spec := "slabTells", apart := false, narrowed := true }
def SlabTellsUptoSaid : Prop := slabTellsUptoRow.holds Try.pinned (OpenSpec.upto slabTellsSpec)

/-- 'coatchecklaw11.EntryLives', WHERE WHAT IT READS IS OF BULK AT MOST 1048576: true; the input reads as it did. -/
def entryLivesUptoRow : OpenClaim := { program := "ytgjkjobemnhbmaa", sum := "9f8967a7faa51b47bddd8ebf4bf471a7dc47e2cf047e208943e800857158c2a4", func := "coatcheck/coatchecklaw11.EntryLives", spec := "entryLives", unfollowed := true, recurses := true, apart := false, narrowed := true }
def EntryLivesUptoSaid : Prop := entryLivesUptoRow.holds Try.pinned (OpenSpec.upto entryLivesSpec)

/-- 'coatchecklaw18.GuardTells', WHERE WHAT IT READS IS OF BULK AT MOST 1048576: true; the input reads as it did. -/
def guardTellsUptoRow : OpenClaim := { program := "ytgjkjobemnhbmaa", sum := "9f8967a7faa51b47bddd8ebf4bf471a7dc47e2cf047e208943e800857158c2a4", func := "coatcheck/coatchecklaw18.GuardTells", spec := "guardTells", recurses := true, apart := false, narrowed := true }
def GuardTellsUptoSaid : Prop := guardTellsUptoRow.holds Try.pinned (OpenSpec.upto guardTellsSpec)

/-- 'coatchecklaw18.GuardPayload', WHERE WHAT IT READS IS OF BULK AT MOST 1048576: true; the input reads as it did. -/
def guardPayloadUptoRow : OpenClaim := { program := "ytgjkjobemnhbmaa", sum := "9f8967a7faa51b47bddd8ebf4bf471a7dc47e2cf047e208943e800857158c2a4", func := "coatcheck/coatchecklaw18.GuardPayload", spec := "guardPayload", recurses := true, apart := false, narrowed := true }
def GuardPayloadUptoSaid : Prop := guardPayloadUptoRow.holds Try.pinned (OpenSpec.upto guardPayloadSpec)

end Rows
end Go.Proofs.Ytgjkjobemnhbmaa
