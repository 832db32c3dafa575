/-
  No cell of these rows narrows 'for every input' (looked for: loops, veiled, ifaces, maps, wideKeys, modest, calm, conditions, laid).
  DERIVED. THE GIVEN ROWS OF THIS SEAT. 7 by the template 'for every input the law returns true; each argument reads behind the call as it read before'; 0 by the template 'total and deterministic' (their statements: YtkplkhcboobfaaaTotals.lean).
  GIVEN WITH THE SEED: the statements are not yours to turn. If you find one false, say at which input.
  Laid BY PROGRAM, IN A SANDBOX (cutbox-rows.mjs): the forced cells as the released guide's own fill.sh prints them over the translation 7e9bbf7934623e18… (all of the seat's roots in one cut). By AI agents, Wed Nov 11 2026. No macro, syntax, notation, axiom, sorry.
-/
import Derived.Test.YtkplkhcboobfaaaChecked
import GoSem.Claim
import GoSem.ClaimJoined
import GoSem.ClaimMapViews
import Derived.JoinedTies
import Derived.KernelRfl
namespace Go.Proofs.Ytkplkhcboobfaaa
/- THE CELL 'sum', in the pinned program and in every row, IS THE sha256 OF THE DUMP (.gsa) THAT YtkplkhcboobfaaaProg.lean LOADS. Nothing in Lean hashes anything: it is a label: what it is worth is what the hold of that sum in a sandbox is worth. -/
noncomputable def Try.pinned : Pinned := { name := "ytkplkhcboobfaaa", sum := "7e9bbf7934623e18adc2db01844d55b300944b94fa6c0a3a2a2ac92e1763102c", checked := Try.checked }
namespace Rows
def none {H : Type} : Left H := { results := [], args := [] }

/-- 'coatchecklaw03.MemoryPlays': WHATEVER THE INPUT: true; the input reads as it did. -/
def memoryPlaysSpec : ChangeSpec := { name := "memoryPlays", fn := fun _ => fun
  | [d1, d2, d3] => { results := [.lit (.bool true)], args := [d1, d2, d3] }
  | _ => none }
def memoryPlaysRow : OpenClaim := { program := "ytkplkhcboobfaaa", sum := "7e9bbf7934623e18adc2db01844d55b300944b94fa6c0a3a2a2ac92e1763102c", func := "coatcheck/coatchecklaw03.MemoryPlays", spec := "memoryPlays", apart := false }
def MemoryPlaysSaid : Prop := memoryPlaysRow.holds Try.pinned (OpenSpec.ofChange memoryPlaysSpec)

/-- ITS FALSE NEIGHBOUR: 'it returns false'. Refute it at one input. -/
def memoryPlaysWrong : ChangeSpec := { name := "memoryPlays", fn := fun _ => fun
  | [d1, d2, d3] => { results := [.lit (.bool false)], args := [d1, d2, d3] }
  | _ => none }
def MemoryPlaysWrongFalsely : Prop := memoryPlaysRow.holds Try.pinned (OpenSpec.ofChange memoryPlaysWrong)

/-- 'coatchecklaw04.RackSame': WHATEVER THE INPUT: true; the input reads as it did. -/
def rackSameSpec : ChangeSpec := { name := "rackSame", fn := fun _ => fun
  | [d1, d2] => { results := [.lit (.bool true)], args := [d1, d2] }
  | _ => none }
def rackSameRow : OpenClaim := { program := "ytkplkhcboobfaaa", sum := "7e9bbf7934623e18adc2db01844d55b300944b94fa6c0a3a2a2ac92e1763102c", func := "coatcheck/coatchecklaw04.RackSame", spec := "rackSame", apart := false }
def RackSameSaid : Prop := rackSameRow.holds Try.pinned (OpenSpec.ofChange rackSameSpec)

/-- ITS FALSE NEIGHBOUR: 'it returns false'. Refute it at one input. -/
def rackSameWrong : ChangeSpec := { name := "rackSame", fn := fun _ => fun
  | [d1, d2] => { results := [.lit (.bool false)], args := [d1, d2] }
  | _ => none }
def RackSameWrongFalsely : Prop := rackSameRow.holds Try.pinned (OpenSpec.ofChange rackSameWrong)

/-- 'coatchecklaw05.BagPuts': WHATEVER THE INPUT: true; the input reads as it did. -/
def bagPutsSpec : ChangeSpec := { name := "bagPuts", fn := fun _ => fun
  | [d1, d2, d3, d4] => { results := [.lit (.bool true)], args := [d1, d2, d3, d4] }
  | _ => none }
def bagPutsRow : OpenClaim := { program := "ytkplkhcboobfaaa", sum := "7e9bbf7934623e18adc2db01844d55b300944b94fa6c0a3a2a2ac92e1763102c", func := "coatcheck/coatchecklaw05.BagPuts", spec := "bagPuts", apart := false }
def BagPutsSaid : Prop := bagPutsRow.holds Try.pinned (OpenSpec.ofChange bagPutsSpec)

/-- ITS FALSE NEIGHBOUR: 'it returns false'. Refute it at one input. -/
def bagPutsWrong : ChangeSpec := { name := "bagPuts", fn := fun _ => fun
  | [d1, d2, d3, d4] => { results := [.lit (.bool false)], args := [d1, d2, d3, d4] }
  | _ => none }
def BagPutsWrongFalsely : Prop := bagPutsRow.holds Try.pinned (OpenSpec.ofChange bagPutsWrong)

/-- 'coatchecklaw05.BagWaits': WHATEVER THE INPUT: true; the input reads as it did. -/
def bagWaitsSpec : ChangeSpec := { name := "bagWaits", fn := fun _ => fun
  | [d1, d2] => { results := [.lit (.bool true)], args := [d1, d2] }
  | _ => none }
def bagWaitsRow : OpenClaim := { program := "ytkplkhcboobfaaa", sum := "7e9bbf7934623e18adc2db01844d55b300944b94fa6c0a3a2a2ac92e1763102c", func := "coatcheck/coatchecklaw05.BagWaits", spec := "bagWaits", apart := false }
def BagWaitsSaid : Prop := bagWaitsRow.holds Try.pinned (OpenSpec.ofChange bagWaitsSpec)

/-- ITS FALSE NEIGHBOUR: 'it returns false'. Refute it at one input. -/
def bagWaitsWrong : ChangeSpec := { name := "bagWaits", fn := fun _ => fun
  | [d1, d2] => { results := [.lit (.bool false)], args := [d1, d2] }
  | _ => none }
def BagWaitsWrongFalsely : Prop := bagWaitsRow.holds Try.pinned (OpenSpec.ofChange bagWaitsWrong)

/-- 'coatchecklaw05.BagRoom': WHATEVER THE INPUT: true; the input reads as it did. -/
def bagRoomSpec : ChangeSpec := { name := "bagRoom", fn := fun _ => fun
  | [d1, d2, d3] => { results := [.lit (.bool true)], args := [d1, d2, d3] }
  | _ => none }
def bagRoomRow : OpenClaim := { program := "ytkplkhcboobfaaa", sum := "7e9bbf7934623e18adc2db01844d55b300944b94fa6c0a3a2a2ac92e1763102c", func := "coatcheck/coatchecklaw05.BagRoom", spec := "bagRoom", apart := false }
def BagRoomSaid : Prop := bagRoomRow.holds Try.pinned (OpenSpec.ofChange bagRoomSpec)

/-- ITS FALSE NEIGHBOUR: 'it returns false'. Refute it at one input. -/
def bagRoomWrong : ChangeSpec := { name := "bagRoom", fn := fun _ => fun
  | [d1, d2, d3] => { results := [.lit (.bool false)], args := [d1, d2, d3] }
  | _ => none }
def BagRoomWrongFalsely : Prop := bagRoomRow.holds Try.pinned (OpenSpec.ofChange bagRoomWrong)

/-- 'coatchecklaw06.StackSteps': WHATEVER THE INPUT: true; the input reads as it did. -/
def stackStepsSpec : ChangeSpec := { name := "stackSteps", fn := fun _ => fun
  | [d1, d2, d3, d4, d5] => { results := [.lit (.bool true)], args := [d1, d2, d3, d4, d5] }
  | _ => none }
def stackStepsRow : OpenClaim := { program := "ytkplkhcboobfaaa", sum := "7e9bbf7934623e18adc2db01844d55b300944b94fa6c0a3a2a2ac92e1763102c", func := "coatcheck/coatchecklaw06.StackSteps", spec := "stackSteps", unfollowed := true, recurses := true, apart := false }
def StackStepsSaid : Prop := stackStepsRow.holds Try.pinned (OpenSpec.ofChange stackStepsSpec)

/-- ITS FALSE NEIGHBOUR: 'it returns false'. Refute it at one input. -/
def stackStepsWrong : ChangeSpec := { name := "stackSteps", fn := fun _ => fun
  | [d1, d2, d3, d4, d5] => { results := [.lit (.bool false)], args := [d1, d2, d3, d4, d5] }
  | _ => none }
def StackStepsWrongFalsely : Prop := stackStepsRow.holds Try.pinned (OpenSpec.ofChange stackStepsWrong)

/-- 'coatchecklaw06.StackLists': WHATEVER THE INPUT: true; the input reads as it did. -/
def stackListsSpec : ChangeSpec := { name := "stackLists", fn := fun _ => fun
  | [d1, d2, d3] => { results := [.lit (.bool true)], args := [d1, d2, d3] }
  | _ => none }
def stackListsRow : OpenClaim := { program := "ytkplkhcboobfaaa", sum := "7e9bbf7934623e18adc2db01844d55b300944b94fa6c0a3a2a2ac92e1763102c", func := "coatcheck/coatchecklaw06.StackLists", spec := "stackLists", unfollowed := true, recurses := true, apart := false }
def StackListsSaid : Prop := stackListsRow.holds Try.pinned (OpenSpec.ofChange stackListsSpec)

/-- ITS FALSE NEIGHBOUR: 'it returns false'. Refute it at one input. -/
def stackListsWrong : ChangeSpec := { name := "stackLists", fn := fun _ => fun
  | [d1, d2, d3] => { results := [.lit (.bool false)], args := [d1, d2, d3] }
  | _ => none }
def StackListsWrongFalsely : Prop := stackListsRow.holds Try.pinned (OpenSpec.ofChange stackListsWrong)

/- THE SECOND FORM. 'bulk': how many values and letters a reading holds, each counted each time it is reached (what is shared counts as often as it is met; a slice's spare places count too). A statement '..UptoSaid' is the law's where the arguments, and the package variables that the reading takes, are together of bulk at most 1048576: NARROWER than '..Said'. Prove '..Said' where nothing that the law and all that it calls make is longer than what came in: it says more and counts as full. Else prove '..UptoSaid'. A law counts once. -/
mutual
def uptoBulk {H : Type} : DataW H → Nat
  | .lit (.string bytes) => bytes.length + 1
  | .lit _ => 1
  | .nil => 1
  | .ptr d => uptoBulk d + 1
  | .slice elems spare => uptoBulkAll elems + uptoBulkAll spare + 1
  | .agg parts => uptoBulkAll parts + 1
  | .iface _ d => uptoBulk d + 1
  | .map entries => uptoBulkEntries entries + 1
  | .held _ => 1
def uptoBulkAll {H : Type} : List (DataW H) → Nat
  | [] => 0
  | d :: r => uptoBulk d + uptoBulkAll r
def uptoBulkEntries {H : Type} : List (Lit × DataW H) → Nat
  | [] => 0
  | x :: r => uptoBulkEntry x + uptoBulkEntries r
def uptoBulkEntry {H : Type} : Lit × DataW H → Nat
  | (.string bytes, d) => bytes.length + uptoBulk d + 1
  | (_, d) => uptoBulk d + 1
 end
def uptoSmall : (H : Type) → List (DataW H) → Bool := fun _ ds => decide (uptoBulkAll ds ≤ 1048576)
def OpenSpec.upto (s : _root_.Go.ChangeSpec) : _root_.Go.OpenSpec := { _root_.Go.OpenSpec.ofChange s with cond := some uptoSmall }

/-- 'coatchecklaw03.MemoryPlays', WHERE WHAT IT READS IS OF BULK AT MOST 1048576: true; the input reads as it did. -/
def memoryPlaysUptoRow : OpenClaim := { program := "ytkplkhcboobfaaa", sum := "7e9bbf7934623e18adc2db01844d55b300944b94fa6c0a3a2a2ac92e1763102c", func := "coatcheck/coatchecklaw03.MemoryPlays", spec := "memoryPlays", apart := false, narrowed := true }
def MemoryPlaysUptoSaid : Prop := memoryPlaysUptoRow.holds Try.pinned (OpenSpec.upto memoryPlaysSpec)

/-- 'coatchecklaw04.RackSame', WHERE WHAT IT READS IS OF BULK AT MOST 1048576: true; the input reads as it did. -/
def rackSameUptoRow : OpenClaim := { program := "ytkplkhcboobfaaa", sum := "7e9bbf7934623e18adc2db01844d55b300944b94fa6c0a3a2a2ac92e1763102c", func := "coatcheck/coatchecklaw04.RackSame", spec := "rackSame", apart := false, narrowed := true }
def RackSameUptoSaid : Prop := rackSameUptoRow.holds Try.pinned (OpenSpec.upto rackSameSpec)

/-- 'coatchecklaw05.BagPuts', WHERE WHAT IT READS IS OF BULK AT MOST 1048576: true; the input reads as it did. -/
def bagPutsUptoRow : OpenClaim := { program := "ytkplkhcboobfaaa", sum := "7e9bbf7934623e18adc2db01844d55b300944b94fa6c0a3a2a2ac92e1763102c", func := "coatcheck/coatchecklaw05.BagPuts", spec := "bagPuts", apart := false, narrowed := true }
def BagPutsUptoSaid : Prop := bagPutsUptoRow.holds Try.pinned (OpenSpec.upto bagPutsSpec)

/-- 'coatchecklaw05.BagWaits', WHERE WHAT IT READS IS OF BULK AT MOST 1048576: true; the input reads as it did. -/
def bagWaitsUptoRow : OpenClaim := { program := "ytkplkhcboobfaaa", sum := "7e9bbf7934623e18adc2db01844d55b300944b94fa6c0a3a2a2ac92e1763102c", func := "coatcheck/coatchecklaw05.BagWaits", spec := "bagWaits", apart := false, narrowed := true }
def BagWaitsUptoSaid : Prop := bagWaitsUptoRow.holds Try.pinned (OpenSpec.upto bagWaitsSpec)

/-- 'coatchecklaw05.BagRoom', WHERE WHAT IT READS IS OF BULK AT MOST 1048576: true; the input reads as it did. -/
def bagRoomUptoRow : OpenClaim := { program := "ytkplkhcboobfaaa", sum := "7e9bbf7934623e18adc2db01844d55b300944b94fa6c0a3a2a2ac92e1763102c", func := "coatcheck/coatchecklaw05.BagRoom", spec := "bagRoom", apart := false, narrowed := true }
def BagRoomUptoSaid : Prop := bagRoomUptoRow.holds Try.pinned (OpenSpec.upto bagRoomSpec)

/-- 'coatchecklaw06.StackSteps', WHERE WHAT IT READS IS OF BULK AT MOST 1048576: true; the input reads as it did. -/
def stackStepsUptoRow : OpenClaim := { program := "ytkplkhcboobfaaa", sum := "7e9bbf7934623e18adc2db01844d55b300944b94fa6c0a3a2a2ac92e1763102c", func := "coatcheck/coatchecklaw06.StackSteps", spec := "stackSteps", unfollowed := true, recurses := true, apart := false, narrowed := true }
def StackStepsUptoSaid : Prop := stackStepsUptoRow.holds Try.pinned (OpenSpec.upto stackStepsSpec)

/-- 'coatchecklaw06.StackLists', WHERE WHAT IT READS IS OF BULK AT MOST 1048576: true; the input reads as it did. -/
def stackListsUptoRow : OpenClaim := { program := "ytkplkhcboobfaaa", sum := "7e9bbf7934623e18adc2db01844d55b300944b94fa6c0a3a2a2ac92e1763102c", func := "coatcheck/coatchecklaw06.StackLists", spec := "stackLists", unfollowed := true, recurses := true, apart := false, narrowed := true }
def StackListsUptoSaid : Prop := stackListsUptoRow.holds Try.pinned (OpenSpec.upto stackListsSpec)

end Rows
end Go.Proofs.Ytkplkhcboobfaaa
