/-
  No cell of these rows narrows 'for every input' (looked for: loops, veiled, ifaces, maps, wideKeys, modest, calm, conditions, laid).
  DERIVED. THE GIVEN ROWS OF THIS SEAT. 12 by the template 'for every input the law returns true; each argument reads behind the call as it read before'; 0 by the template 'total and deterministic' (their statements: YtblkfbbdeodpjaaTotals.lean).
  GIVEN WITH THE SEED: the statements are not yours to turn. If you find one false, say at which input.
  Laid BY PROGRAM, IN A SANDBOX (cutbox-rows.mjs): the forced cells as the released guide's own fill.sh prints them over the translation 253c40f52beb627b… (all of the seat's roots in one cut). By AI agents, Wed Nov 11 2026. No macro, syntax, notation, axiom, sorry.
-/
import Derived.Test.YtblkfbbdeodpjaaChecked
import GoSem.Claim
import GoSem.ClaimJoined
import GoSem.ClaimMapViews
import Derived.JoinedTies
import Derived.KernelRfl
namespace Go.Proofs.Ytblkfbbdeodpjaa
/- THE CELL 'sum', in the pinned program and in every row, IS THE sha256 OF THE DUMP (.gsa) THAT YtblkfbbdeodpjaaProg.lean LOADS. Nothing in Lean hashes anything: it is a label: what it is worth is what the hold of that sum in a sandbox is worth. -/
noncomputable def Try.pinned : Pinned := { name := "ytblkfbbdeodpjaa", sum := "253c40f52beb627badd486a413353976e76ec1cf03fbae25efb2d62b761b7a6d", checked := Try.checked }
namespace Rows
def none {H : Type} : Left H := { results := [], args := [] }

/-- 'coatchecklaw06.StackLists': WHATEVER THE INPUT: true; the input reads as it did. -/
def stackListsSpec : ChangeSpec := { name := "stackLists", fn := fun _ => fun
  | [d1, d2, d3] => { results := [.lit (.bool true)], args := [d1, d2, d3] }
  | _ => none }
def stackListsRow : OpenClaim := { program := "ytblkfbbdeodpjaa", sum := "253c40f52beb627badd486a413353976e76ec1cf03fbae25efb2d62b761b7a6d", func := "coatcheck/coatchecklaw06.StackLists", spec := "stackLists", unfollowed := true, recurses := true, plainKeys := false, apart := false }
def StackListsSaid : Prop := stackListsRow.holds Try.pinned (OpenSpec.ofChange stackListsSpec)

/-- ITS FALSE NEIGHBOUR: 'it returns false'. Refute it at one input. -/
def stackListsWrong : ChangeSpec := { name := "stackLists", fn := fun _ => fun
  | [d1, d2, d3] => { results := [.lit (.bool false)], args := [d1, d2, d3] }
  | _ => none }
def StackListsWrongFalsely : Prop := stackListsRow.holds Try.pinned (OpenSpec.ofChange stackListsWrong)

/-- 'coatchecklaw06.StackTakes': WHATEVER THE INPUT: true; the input reads as it did. -/
def stackTakesSpec : ChangeSpec := { name := "stackTakes", fn := fun _ => fun
  | [d1, d2, d3] => { results := [.lit (.bool true)], args := [d1, d2, d3] }
  | _ => none }
def stackTakesRow : OpenClaim := { program := "ytblkfbbdeodpjaa", sum := "253c40f52beb627badd486a413353976e76ec1cf03fbae25efb2d62b761b7a6d", func := "coatcheck/coatchecklaw06.StackTakes", spec := "stackTakes", unfollowed := true, recurses := true, plainKeys := false, apart := false }
def StackTakesSaid : Prop := stackTakesRow.holds Try.pinned (OpenSpec.ofChange stackTakesSpec)

/-- ITS FALSE NEIGHBOUR: 'it returns false'. Refute it at one input. -/
def stackTakesWrong : ChangeSpec := { name := "stackTakes", fn := fun _ => fun
  | [d1, d2, d3] => { results := [.lit (.bool false)], args := [d1, d2, d3] }
  | _ => none }
def StackTakesWrongFalsely : Prop := stackTakesRow.holds Try.pinned (OpenSpec.ofChange stackTakesWrong)

/-- 'coatchecklaw06.StackMany': WHATEVER THE INPUT: true; the input reads as it did. -/
def stackManySpec : ChangeSpec := { name := "stackMany", fn := fun _ => fun
  | [d1, d2, d3] => { results := [.lit (.bool true)], args := [d1, d2, d3] }
  | _ => none }
def stackManyRow : OpenClaim := { program := "ytblkfbbdeodpjaa", sum := "253c40f52beb627badd486a413353976e76ec1cf03fbae25efb2d62b761b7a6d", func := "coatcheck/coatchecklaw06.StackMany", spec := "stackMany", unfollowed := true, recurses := true, plainKeys := false, apart := false }
def StackManySaid : Prop := stackManyRow.holds Try.pinned (OpenSpec.ofChange stackManySpec)

/-- ITS FALSE NEIGHBOUR: 'it returns false'. Refute it at one input. -/
def stackManyWrong : ChangeSpec := { name := "stackMany", fn := fun _ => fun
  | [d1, d2, d3] => { results := [.lit (.bool false)], args := [d1, d2, d3] }
  | _ => none }
def StackManyWrongFalsely : Prop := stackManyRow.holds Try.pinned (OpenSpec.ofChange stackManyWrong)

/-- 'coatchecklaw07.EpochHolds': WHATEVER THE INPUT: true; the input reads as it did. -/
def epochHoldsSpec : ChangeSpec := { name := "epochHolds", fn := fun _ => fun
  | [d1, d2] => { results := [.lit (.bool true)], args := [d1, d2] }
  | _ => none }
def epochHoldsRow : OpenClaim := { program := "ytblkfbbdeodpjaa", sum := "253c40f52beb627badd486a413353976e76ec1cf03fbae25efb2d62b761b7a6d", func := "coatcheck/coatchecklaw07.EpochHolds", spec := "epochHolds", plainKeys := false, apart := false }
def EpochHoldsSaid : Prop := epochHoldsRow.holds Try.pinned (OpenSpec.ofChange epochHoldsSpec)

/-- ITS FALSE NEIGHBOUR: 'it returns false'. Refute it at one input. -/
def epochHoldsWrong : ChangeSpec := { name := "epochHolds", fn := fun _ => fun
  | [d1, d2] => { results := [.lit (.bool false)], args := [d1, d2] }
  | _ => none }
def EpochHoldsWrongFalsely : Prop := epochHoldsRow.holds Try.pinned (OpenSpec.ofChange epochHoldsWrong)

/-- 'coatchecklaw08.SlabClaims': WHATEVER THE INPUT: true; the input reads as it did. -/
def slabClaimsSpec : ChangeSpec := { name := "slabClaims", fn := fun _ => fun
  | [d1, d2, d3, d4] => { results := [.lit (.bool true)], args := [d1, d2, d3, d4] }
  | _ => none }
def slabClaimsRow : OpenClaim := { program := "ytblkfbbdeodpjaa", sum := "253c40f52beb627badd486a413353976e76ec1cf03fbae25efb2d62b761b7a6d", func := "coatcheck/coatchecklaw08.SlabClaims", spec := "slabClaims", plainKeys := false, apart := false }
def SlabClaimsSaid : Prop := slabClaimsRow.holds Try.pinned (OpenSpec.ofChange slabClaimsSpec)

/-- ITS FALSE NEIGHBOUR: 'it returns false'. Refute it at one input. -/
def slabClaimsWrong : ChangeSpec := { name := "slabClaims", fn := fun _ => fun
  | [d1, d2, d3, d4] => { results := [.lit (.bool false)], args := [d1, d2, d3, d4] }
  | _ => none }
def SlabClaimsWrongFalsely : Prop := slabClaimsRow.holds Try.pinned (OpenSpec.ofChange slabClaimsWrong)

/-- 'coatchecklaw09.TakeSpares': WHATEVER THE INPUT: true; the input reads as it did. -/
def takeSparesSpec : ChangeSpec := { name := "takeSpares", fn := fun _ => fun
  | [d1, d2, d3] => { results := [.lit (.bool true)], args := [d1, d2, d3] }
  | _ => none }
def takeSparesRow : OpenClaim := { program := "ytblkfbbdeodpjaa", sum := "253c40f52beb627badd486a413353976e76ec1cf03fbae25efb2d62b761b7a6d", func := "coatcheck/coatchecklaw09.TakeSpares", spec := "takeSpares", unfollowed := true, recurses := true, plainKeys := false, apart := false }
def TakeSparesSaid : Prop := takeSparesRow.holds Try.pinned (OpenSpec.ofChange takeSparesSpec)

/-- ITS FALSE NEIGHBOUR: 'it returns false'. Refute it at one input. -/
def takeSparesWrong : ChangeSpec := { name := "takeSpares", fn := fun _ => fun
  | [d1, d2, d3] => { results := [.lit (.bool false)], args := [d1, d2, d3] }
  | _ => none }
def TakeSparesWrongFalsely : Prop := takeSparesRow.holds Try.pinned (OpenSpec.ofChange takeSparesWrong)

/-- 'coatchecklaw11.EntrySteps': WHATEVER THE INPUT: true; the input reads as it did. -/
def entryStepsSpec : ChangeSpec := { name := "entrySteps", fn := fun _ => fun
  | [d1, d2, d3, d4, d5] => { results := [.lit (.bool true)], args := [d1, d2, d3, d4, d5] }
  | _ => none }
def entryStepsRow : OpenClaim := { program := "ytblkfbbdeodpjaa", sum := "253c40f52beb627badd486a413353976e76ec1cf03fbae25efb2d62b761b7a6d", func := "coatcheck/coatchecklaw11.EntrySteps", spec := "entrySteps", unfollowed := true, recurses := true, plainKeys := false, apart := false }
def EntryStepsSaid : Prop := entryStepsRow.holds Try.pinned (OpenSpec.ofChange entryStepsSpec)

/-- ITS FALSE NEIGHBOUR: 'it returns false'. Refute it at one input. -/
def entryStepsWrong : ChangeSpec := { name := "entrySteps", fn := fun _ => fun
  | [d1, d2, d3, d4, d5] => { results := [.lit (.bool false)], args := [d1, d2, d3, d4, d5] }
  | _ => none }
def EntryStepsWrongFalsely : Prop := entryStepsRow.holds Try.pinned (OpenSpec.ofChange entryStepsWrong)

/-- 'coatchecklaw11.EntryLives': WHATEVER THE INPUT: true; the input reads as it did. -/
def entryLivesSpec : ChangeSpec := { name := "entryLives", fn := fun _ => fun
  | [d1, d2, d3] => { results := [.lit (.bool true)], args := [d1, d2, d3] }
  | _ => none }
def entryLivesRow : OpenClaim := { program := "ytblkfbbdeodpjaa", sum := "253c40f52beb627badd486a413353976e76ec1cf03fbae25efb2d62b761b7a6d", func := "coatcheck/coatchecklaw11.EntryLives", spec := "entryLives", unfollowed := true, recurses := true, plainKeys := false, apart := false }
def EntryLivesSaid : Prop := entryLivesRow.holds Try.pinned (OpenSpec.ofChange entryLivesSpec)

/-- ITS FALSE NEIGHBOUR: 'it returns false'. Refute it at one input. -/
def entryLivesWrong : ChangeSpec := { name := "entryLives", fn := fun _ => fun
  | [d1, d2, d3] => { results := [.lit (.bool false)], args := [d1, d2, d3] }
  | _ => none }
def EntryLivesWrongFalsely : Prop := entryLivesRow.holds Try.pinned (OpenSpec.ofChange entryLivesWrong)

/-- 'coatchecklaw11.EntryKills': WHATEVER THE INPUT: true; the input reads as it did. -/
def entryKillsSpec : ChangeSpec := { name := "entryKills", fn := fun _ => fun
  | [d1, d2, d3] => { results := [.lit (.bool true)], args := [d1, d2, d3] }
  | _ => none }
def entryKillsRow : OpenClaim := { program := "ytblkfbbdeodpjaa", sum := "253c40f52beb627badd486a413353976e76ec1cf03fbae25efb2d62b761b7a6d", func := "coatcheck/coatchecklaw11.EntryKills", spec := "entryKills", unfollowed := true, recurses := true, plainKeys := false, apart := false }
def EntryKillsSaid : Prop := entryKillsRow.holds Try.pinned (OpenSpec.ofChange entryKillsSpec)

/-- ITS FALSE NEIGHBOUR: 'it returns false'. Refute it at one input. -/
def entryKillsWrong : ChangeSpec := { name := "entryKills", fn := fun _ => fun
  | [d1, d2, d3] => { results := [.lit (.bool false)], args := [d1, d2, d3] }
  | _ => none }
def EntryKillsWrongFalsely : Prop := entryKillsRow.holds Try.pinned (OpenSpec.ofChange entryKillsWrong)

/-- 'coatchecklaw11.EntryChanges': WHATEVER THE INPUT: true; the input reads as it did. -/
def entryChangesSpec : ChangeSpec := { name := "entryChanges", fn := fun _ => fun
  | [d1, d2, d3, d4] => { results := [.lit (.bool true)], args := [d1, d2, d3, d4] }
  | _ => none }
def entryChangesRow : OpenClaim := { program := "ytblkfbbdeodpjaa", sum := "253c40f52beb627badd486a413353976e76ec1cf03fbae25efb2d62b761b7a6d", func := "coatcheck/coatchecklaw11.EntryChanges", spec := "entryChanges", unfollowed := true, recurses := true, plainKeys := false, apart := false }
def EntryChangesSaid : Prop := entryChangesRow.holds Try.pinned (OpenSpec.ofChange entryChangesSpec)

/-- ITS FALSE NEIGHBOUR: 'it returns false'. Refute it at one input. -/
def entryChangesWrong : ChangeSpec := { name := "entryChanges", fn := fun _ => fun
  | [d1, d2, d3, d4] => { results := [.lit (.bool false)], args := [d1, d2, d3, d4] }
  | _ => none }
def EntryChangesWrongFalsely : Prop := entryChangesRow.holds Try.pinned (OpenSpec.ofChange entryChangesWrong)

/-- 'coatchecklaw16.OrderKeeps': WHATEVER THE INPUT: true; the input reads as it did. -/
def orderKeepsSpec : ChangeSpec := { name := "orderKeeps", fn := fun _ => fun
  | [d] => { results := [.lit (.bool true)], args := [d] }
  | _ => none }
def orderKeepsRow : OpenClaim := { program := "ytblkfbbdeodpjaa", sum := "253c40f52beb627badd486a413353976e76ec1cf03fbae25efb2d62b761b7a6d", func := "coatcheck/coatchecklaw16.OrderKeeps", spec := "orderKeeps", plainKeys := false, apart := false }
def OrderKeepsSaid : Prop := orderKeepsRow.holds Try.pinned (OpenSpec.ofChange orderKeepsSpec)

/-- ITS FALSE NEIGHBOUR: 'it returns false'. Refute it at one input. -/
def orderKeepsWrong : ChangeSpec := { name := "orderKeeps", fn := fun _ => fun
  | [d] => { results := [.lit (.bool false)], args := [d] }
  | _ => none }
def OrderKeepsWrongFalsely : Prop := orderKeepsRow.holds Try.pinned (OpenSpec.ofChange orderKeepsWrong)

/-- 'coatchecklaw16.OrderApart': WHATEVER THE INPUT: true; the input reads as it did. -/
def orderApartSpec : ChangeSpec := { name := "orderApart", fn := fun _ => fun
  | [d] => { results := [.lit (.bool true)], args := [d] }
  | _ => none }
def orderApartRow : OpenClaim := { program := "ytblkfbbdeodpjaa", sum := "253c40f52beb627badd486a413353976e76ec1cf03fbae25efb2d62b761b7a6d", func := "coatcheck/coatchecklaw16.OrderApart", spec := "orderApart", plainKeys := false, apart := false }
def OrderApartSaid : Prop := orderApartRow.holds Try.pinned (OpenSpec.ofChange orderApartSpec)

/-- ITS FALSE NEIGHBOUR: 'it returns false'. Refute it at one input. -/
def orderApartWrong : ChangeSpec := { name := "orderApart", fn := fun _ => fun
  | [d] => { results := [.lit (.bool false)], args := [d] }
  | _ => none }
def OrderApartWrongFalsely : Prop := orderApartRow.holds Try.pinned (OpenSpec.ofChange orderApartWrong)

/- THE SECOND FORM. 'bulk': how many values and letters a reading holds, each counted each time it is reached (what is shared counts as often as it is met; a slice's spare places count too). A statement '..UptoSaid' is the law's where the arguments, and the package variables that the reading takes, are together of bulk at most 1048576: NARROWER than '..Said'. Prove '..Said' where nothing that the law and all that it calls make is longer than what came in: it says more and counts as full. Else prove '..UptoSaid'. A law counts once. -/
mutual
def uptoBulk {H : Type} : DataW H → Nat
  | .lit (.string bytes) => bytes.length + 1
  | .lit _ => 1
  | .nil => 1
  | .ptr d => uptoBulk d + 1
  | .slice elems spare => uptoBulkAll elems + uptoBulkAll spare + 1
  | .agg parts => uptoBulkAll parts + 1
  | .iface _ d => uptoBulk d + 1
  | .map entries => uptoBulkEntries entries + 1
  | .held _ => 1
def uptoBulkAll {H : Type} : List (DataW H) → Nat
  | [] => 0
  | d :: r => uptoBulk d + uptoBulkAll r
def uptoBulkEntries {H : Type} : List (Lit × DataW H) → Nat
  | [] => 0
  | x :: r => uptoBulkEntry x + uptoBulkEntries r
def uptoBulkEntry {H : Type} : Lit × DataW H → Nat
  | (.string bytes, d) => bytes.length + uptoBulk d + 1
  | (_, d) => uptoBulk d + 1
 end
def uptoSmall : (H : Type) → List (DataW H) → Bool := fun _ ds => decide (uptoBulkAll ds ≤ 1048576)
def OpenSpec.upto (s : _root_.Go.ChangeSpec) : _root_.Go.OpenSpec := { _root_.Go.OpenSpec.ofChange s with cond := some uptoSmall }

/-- 'coatchecklaw06.StackLists', WHERE WHAT IT READS IS OF BULK AT MOST 1048576: true; the input reads as it did. -/
def stackListsUptoRow : OpenClaim := { program := "ytblkfbbdeodpjaa", sum := "253c40f52beb627badd486a413353976e76ec1cf03fbae25efb2d62b761b7a6d", func := "coatcheck/coatchecklaw06.StackLists", spec := "stackLists", unfollowed := true, recurses := true, plainKeys := false, apart := false, narrowed := true }
def StackListsUptoSaid : Prop := stackListsUptoRow.holds Try.pinned (OpenSpec.upto stackListsSpec)

/-- 'coatchecklaw06.StackTakes', WHERE WHAT IT READS IS OF BULK AT MOST 1048576: true; the input reads as it did. -/
def stackTakesUptoRow : OpenClaim := { program := "ytblkfbbdeodpjaa", sum := "253c40f52beb627badd486a413353976e76ec1cf03fbae25efb2d62b761b7a6d", func := "coatcheck/coatchecklaw06.StackTakes", spec := "stackTakes", unfollowed := true, recurses := true, plainKeys := false, apart := false, narrowed := true }
def StackTakesUptoSaid : Prop := stackTakesUptoRow.holds Try.pinned (OpenSpec.upto stackTakesSpec)

/-- 'coatchecklaw06.StackMany', WHERE WHAT IT READS IS OF BULK AT MOST 1048576: true; the input reads as it did. -/
def stackManyUptoRow : OpenClaim := { program := "ytblkfbbdeodpjaa", sum := "253c40f52beb627badd486a413353976e76ec1cf03fbae25efb2d62b761b7a6d", func := "coatcheck/coatchecklaw06.StackMany", spec := "stackMany", unfollowed := true, recurses := true, plainKeys := false, apart := false, narrowed := true }
def StackManyUptoSaid : Prop := stackManyUptoRow.holds Try.pinned (OpenSpec.upto stackManySpec)

/-- 'coatchecklaw07.EpochHolds', WHERE WHAT IT READS IS OF BULK AT MOST 1048576: true; the input reads as it did. -/
def epochHoldsUptoRow : OpenClaim := { program := "ytblkfbbdeodpjaa", sum := "253c40f52beb627badd486a413353976e76ec1cf03fbae25efb2d62b761b7a6d", func := "coatcheck/coatchecklaw07.EpochHolds", spec := "epochHolds", plainKeys := false, apart := false, narrowed := true }
def EpochHoldsUptoSaid : Prop := epochHoldsUptoRow.holds Try.pinned (OpenSpec.upto epochHoldsSpec)

/-- 'coatchecklaw08.SlabClaims', WHERE WHAT IT READS IS OF BULK AT MOST 1048576: true; the input reads as it did. -/
def slabClaimsUptoRow : OpenClaim := { program := "ytblkfbbdeodpjaa", sum := "253c40f52beb627badd486a413353976e76ec1cf03fbae25efb2d62b761b7a6d", func := "coatcheck/coatchecklaw08.SlabClaims", spec := "slabClaims", plainKeys := false, apart := false, narrowed := true }
def SlabClaimsUptoSaid : Prop := slabClaimsUptoRow.holds Try.pinned (OpenSpec.upto slabClaimsSpec)

/-- 'coatchecklaw09.TakeSpares', WHERE WHAT IT READS IS OF BULK AT MOST 1048576: true; the input reads as it did. -/
def takeSparesUptoRow : OpenClaim := { program := "ytblkfbbdeodpjaa", sum := "253c40f52beb627badd486a413353976e76ec1cf03fbae25efb2d62b761b7a6d", func := "coatcheck/coatchecklaw09.TakeSpares", spec := "takeSpares", unfollowed := true, recurses := true, plainKeys := false, apart := false, narrowed := true }
def TakeSparesUptoSaid : Prop := takeSparesUptoRow.holds Try.pinned (OpenSpec.upto takeSparesSpec)

/-- 'coatchecklaw11.EntrySteps', WHERE WHAT IT READS IS OF BULK AT MOST 1048576: true; the input reads as it did. -/
def entryStepsUptoRow : OpenClaim := { program := "ytblkfbbdeodpjaa", sum := "253c40f52beb627badd486a413353976e76ec1cf03fbae25efb2d62b761b7a6d", func := "coatcheck/coatchecklaw11.EntrySteps", spec := "entrySteps", unfollowed := true, recurses := true, plainKeys := false, apart := false, narrowed := true }
def EntryStepsUptoSaid : Prop := entryStepsUptoRow.holds Try.pinned (OpenSpec.upto entryStepsSpec)

/-- 'coatchecklaw11.EntryLives', WHERE WHAT IT READS IS OF BULK AT MOST 1048576: true; the input reads as it did. -/
def entryLivesUptoRow : OpenClaim := { program := "ytblkfbbdeodpjaa", sum := "253c40f52beb627badd486a413353976e76ec1cf03fbae25efb2d62b761b7a6d", func := "coatcheck/coatchecklaw11.EntryLives", spec := "entryLives", unfollowed := true, recurses := true, plainKeys := false, apart := false, narrowed := true }
def EntryLivesUptoSaid : Prop := entryLivesUptoRow.holds Try.pinned (OpenSpec.upto entryLivesSpec)

/-- 'coatchecklaw11.EntryKills', WHERE WHAT IT READS IS OF BULK AT MOST 1048576: true; the input reads as it did. -/
def entryKillsUptoRow : OpenClaim := { program := "ytblkfbbdeodpjaa", sum := "253c40f52beb627badd486a413353976e76ec1cf03fbae25efb2d62b761b7a6d", func := "coatcheck/coatchecklaw11.EntryKills", spec := "entryKills", unfollowed := true, recurses := true, plainKeys := false, apart := false, narrowed := true }
def EntryKillsUptoSaid : Prop := entryKillsUptoRow.holds Try.pinned (OpenSpec.upto entryKillsSpec)

/-- 'coatchecklaw11.EntryChanges', WHERE WHAT IT READS IS OF BULK AT MOST 1048576: true; the input reads as it did. -/
def entryChangesUptoRow : OpenClaim := { program := "ytblkfbbdeodpjaa", sum := "253c40f52beb627badd486a413353976e76ec1cf03fbae25efb2d62b761b7a6d", func := "coatcheck/coatchecklaw11.EntryChanges", spec := "entryChanges", unfollowed := true, recurses := true, plainKeys := false, apart := false, narrowed := true }
def EntryChangesUptoSaid : Prop := entryChangesUptoRow.holds Try.pinned (OpenSpec.upto entryChangesSpec)

/-- 'coatchecklaw16.OrderKeeps', WHERE WHAT IT READS IS OF BULK AT MOST 1048576: true; the input reads as it did. -/
def orderKeepsUptoRow : OpenClaim := { program := "ytblkfbbdeodpjaa", sum := "253c40f52beb627badd486a413353976e76ec1cf03fbae25efb2d62b761b7a6d", func := "coatcheck/coatchecklaw16.OrderKeeps", spec := "orderKeeps", plainKeys := false, apart := false, narrowed := true }
def OrderKeepsUptoSaid : Prop := orderKeepsUptoRow.holds Try.pinned (OpenSpec.upto orderKeepsSpec)

/-- 'coatchecklaw16.OrderApart', WHERE WHAT IT READS IS OF BULK AT MOST 1048576: true; the input reads as it did. -/
def orderApartUptoRow : OpenClaim := { program := "ytblkfbbdeodpjaa", sum := "253c40f52beb627badd486a413353976e76ec1cf03fbae25efb2d62b761b7a6d", func := "coatcheck/coatchecklaw16.OrderApart", spec := "orderApart", plainKeys := false, apart := false, narrowed := true }
def OrderApartUptoSaid : Prop := orderApartUptoRow.holds Try.pinned (OpenSpec.upto orderApartSpec)

end Rows
end Go.Proofs.Ytblkfbbdeodpjaa
