/-
  No cell of these rows narrows 'for every input' (looked for: loops, veiled, ifaces, maps, wideKeys, modest, calm, conditions, laid).
  DERIVED. THE GIVEN ROWS OF THIS SEAT. 5 by the template 'for every input the law returns true; each argument reads behind the call as it read before'; 0 by the template 'total and deterministic' (their statements: YtgpdkagmacpghaaGreatTotals.lean).
  GIVEN WITH THE SEED: the statements are not yours to turn. If you find one false, say at which input.
  Laid BY PROGRAM, IN A SANDBOX (cutbox-rows.mjs): the forced cells as the released guide's own fill.sh prints them over the translation 36a3591941d64d7e… (all of the seat's roots in one cut). By AI agents, Wed Nov 11 2026. No macro, syntax, notation, axiom, sorry.
-/
import Derived.Test.YtgpdkagmacpghaaGreatChecked
import GoSem.Claim
import GoSem.ClaimJoined
import GoSem.ClaimMapViews
import Derived.JoinedTies
import Derived.KernelRfl
namespace Go.Proofs.YtgpdkagmacpghaaGreat
/- THE CELL 'sum', in the pinned program and in every row, IS THE sha256 OF THE DUMP (.gsa) THAT YtgpdkagmacpghaaGreatProg.lean LOADS. Nothing in Lean hashes anything: it is a label: what it is worth is what the hold of that sum in a sandbox is worth. -/
noncomputable def Tryz.pinned : Pinned := { name := "ytgpdkagmacpghaagreat", sum := "36a3591941d64d7e50ea4ab7c3ed0f6eb61beae4adfaa866409449bb46becf49", checked := Tryz.checked }
namespace Rows
def none {H : Type} : Left H := { results := [], args := [] }

/-- 'coatchecklaw13.WorkBegins': WHATEVER THE INPUT: true; the input reads as it did. -/
def workBeginsSpec : ChangeSpec := { name := "workBegins", fn := fun _ => fun
  | [d1, d2, d3, d4] => { results := [.lit (.bool true)], args := [d1, d2, d3, d4] }
  | _ => none }
def workBeginsRow : OpenClaim := { program := "ytgpdkagmacpghaagreat", sum := "36a3591941d64d7e50ea4ab7c3ed0f6eb61beae4adfaa866409449bb46becf49", func := "coatcheck/coatchecklaw13.WorkBegins", spec := "workBegins", unfollowed := true, recurses := true, plainKeys := false, apart := false }
def WorkBeginsSaid : Prop := workBeginsRow.holds Tryz.pinned (OpenSpec.ofChange workBeginsSpec)

/-- ITS FALSE NEIGHBOUR: 'it returns false'. Refute it at one input. -/
def workBeginsWrong : ChangeSpec := { name := "workBegins", fn := fun _ => fun
  | [d1, d2, d3, d4] => { results := [.lit (.bool false)], args := [d1, d2, d3, d4] }
  | _ => none }
def WorkBeginsWrongFalsely : Prop := workBeginsRow.holds Tryz.pinned (OpenSpec.ofChange workBeginsWrong)

/-- 'coatchecklaw15.HallNone': WHATEVER THE INPUT: true; the input reads as it did. -/
def hallNoneSpec : ChangeSpec := { name := "hallNone", fn := fun _ => fun
  | [d1, d2] => { results := [.lit (.bool true)], args := [d1, d2] }
  | _ => none }
def hallNoneRow : OpenClaim := { program := "ytgpdkagmacpghaagreat", sum := "36a3591941d64d7e50ea4ab7c3ed0f6eb61beae4adfaa866409449bb46becf49", func := "coatcheck/coatchecklaw15.HallNone", spec := "hallNone", unfollowed := true, recurses := true, plainKeys := false, apart := false }
def HallNoneSaid : Prop := hallNoneRow.holds Tryz.pinned (OpenSpec.ofChange hallNoneSpec)

/-- ITS FALSE NEIGHBOUR: 'it returns false'. Refute it at one input. -/
def hallNoneWrong : ChangeSpec := { name := "hallNone", fn := fun _ => fun
  | [d1, d2] => { results := [.lit (.bool false)], args := [d1, d2] }
  | _ => none }
def HallNoneWrongFalsely : Prop := hallNoneRow.holds Tryz.pinned (OpenSpec.ofChange hallNoneWrong)

/-- 'coatchecklaw15.HallOrder': WHATEVER THE INPUT: true; the input reads as it did. -/
def hallOrderSpec : ChangeSpec := { name := "hallOrder", fn := fun _ => fun
  | [d1, d2, d3] => { results := [.lit (.bool true)], args := [d1, d2, d3] }
  | _ => none }
def hallOrderRow : OpenClaim := { program := "ytgpdkagmacpghaagreat", sum := "36a3591941d64d7e50ea4ab7c3ed0f6eb61beae4adfaa866409449bb46becf49", func := "coatcheck/coatchecklaw15.HallOrder", spec := "hallOrder", unfollowed := true, recurses := true, plainKeys := false, apart := false }
def HallOrderSaid : Prop := hallOrderRow.holds Tryz.pinned (OpenSpec.ofChange hallOrderSpec)

/-- ITS FALSE NEIGHBOUR: 'it returns false'. Refute it at one input. -/
def hallOrderWrong : ChangeSpec := { name := "hallOrder", fn := fun _ => fun
  | [d1, d2, d3] => { results := [.lit (.bool false)], args := [d1, d2, d3] }
  | _ => none }
def HallOrderWrongFalsely : Prop := hallOrderRow.holds Tryz.pinned (OpenSpec.ofChange hallOrderWrong)

/-- 'coatchecklaw16.OrderHall': WHATEVER THE INPUT: true; the input reads as it did. -/
def orderHallSpec : ChangeSpec := { name := "orderHall", fn := fun _ => fun
  | [d1, d2, d3] => { results := [.lit (.bool true)], args := [d1, d2, d3] }
  | _ => none }
def orderHallRow : OpenClaim := { program := "ytgpdkagmacpghaagreat", sum := "36a3591941d64d7e50ea4ab7c3ed0f6eb61beae4adfaa866409449bb46becf49", func := "coatcheck/coatchecklaw16.OrderHall", spec := "orderHall", unfollowed := true, recurses := true, plainKeys := false, apart := false }
def OrderHallSaid : Prop := orderHallRow.holds Tryz.pinned (OpenSpec.ofChange orderHallSpec)

/-- ITS FALSE NEIGHBOUR: 'it returns false'. Refute it at one input. -/
def orderHallWrong : ChangeSpec := { name := "orderHall", fn := fun _ => fun
  | [d1, d2, d3] => { results := [.lit (.bool false)], args := [d1, d2, d3] }
  | _ => none }
def OrderHallWrongFalsely : Prop := orderHallRow.holds Tryz.pinned (OpenSpec.ofChange orderHallWrong)

/-- 'coatchecklaw20.PaceNone': WHATEVER THE INPUT: true; the input reads as it did. -/
def paceNoneSpec : ChangeSpec := { name := "paceNone", fn := fun _ => fun
  | [d1, d2] => { results := [.lit (.bool true)], args := [d1, d2] }
  | _ => none }
def paceNoneRow : OpenClaim := { program := "ytgpdkagmacpghaagreat", sum := "36a3591941d64d7e50ea4ab7c3ed0f6eb61beae4adfaa866409449bb46becf49", func := "coatcheck/coatchecklaw20.PaceNone", spec := "paceNone", unfollowed := true, recurses := true, plainKeys := false, apart := false }
def PaceNoneSaid : Prop := paceNoneRow.holds Tryz.pinned (OpenSpec.ofChange paceNoneSpec)

/-- ITS FALSE NEIGHBOUR: 'it returns false'. Refute it at one input. -/
def paceNoneWrong : ChangeSpec := { name := "paceNone", fn := fun _ => fun
  | [d1, d2] => { results := [.lit (.bool false)], args := [d1, d2] }
  | _ => none }
def PaceNoneWrongFalsely : Prop := paceNoneRow.holds Tryz.pinned (OpenSpec.ofChange paceNoneWrong)

/- THE SECOND FORM. 'bulk': how many values and letters a reading holds, each counted each time it is reached (what is shared counts as often as it is met; a slice's spare places count too). A statement '..UptoSaid' is the law's where the arguments, and the package variables that the reading takes, are together of bulk at most 1048576: NARROWER than '..Said'. Prove '..Said' where nothing that the law and all that it calls make is longer than what came in: it says more and counts as full. Else prove '..UptoSaid'. A law counts once. -/
mutual
def uptoBulk {H : Type} : DataW H → Nat
  | .lit (.string bytes) => bytes.length + 1
  | .lit _ => 1
  | .nil => 1
  | .ptr d => uptoBulk d + 1
  | .slice elems spare => uptoBulkAll elems + uptoBulkAll spare + 1
  | .agg parts => uptoBulkAll parts + 1
  | .iface _ d => uptoBulk d + 1
  | .map entries => uptoBulkEntries entries + 1
  | .held _ => 1
def uptoBulkAll {H : Type} : List (DataW H) → Nat
  | [] => 0
  | d :: r => uptoBulk d + uptoBulkAll r
def uptoBulkEntries {H : Type} : List (Lit × DataW H) → Nat
  | [] => 0
  | x :: r => uptoBulkEntry x + uptoBulkEntries r
def uptoBulkEntry {H : Type} : Lit × DataW H → Nat
  | (.string bytes, d) => bytes.length + uptoBulk d + 1
  | (_, d) => uptoBulk d + 1
 end
def uptoSmall : (H : Type) → List (DataW H) → Bool := fun _ ds => decide (uptoBulkAll ds ≤ 1048576)
def OpenSpec.upto (s : _root_.Go.ChangeSpec) : _root_.Go.OpenSpec := { _root_.Go.OpenSpec.ofChange s with cond := some uptoSmall }

/-- 'coatchecklaw13.WorkBegins', WHERE WHAT IT READS IS OF BULK AT MOST 1048576: true; the input reads as it did. -/
def workBeginsUptoRow : OpenClaim := { program := "ytgpdkagmacpghaagreat", sum := "36a3591941d64d7e50ea4ab7c3ed0f6eb61beae4adfaa866409449bb46becf49", func := "coatcheck/coatchecklaw13.WorkBegins", spec := "workBegins", unfollowed := true, recurses := true, plainKeys := false, apart := false, narrowed := true }
def WorkBeginsUptoSaid : Prop := workBeginsUptoRow.holds Tryz.pinned (OpenSpec.upto workBeginsSpec)

/-- 'coatchecklaw15.HallNone', WHERE WHAT IT READS IS OF BULK AT MOST 1048576: true; the input reads as it did. -/
def hallNoneUptoRow : OpenClaim := { program := "ytgpdkagmacpghaagreat", sum := "36a3591941d64d7e50ea4ab7c3ed0f6eb61beae4adfaa866409449bb46becf49", func := "coatcheck/coatchecklaw15.HallNone", spec := "hallNone", unfollowed := true, recurses := true, plainKeys := false, apart := false, narrowed := true }
def HallNoneUptoSaid : Prop := hallNoneUptoRow.holds Tryz.pinned (OpenSpec.upto hallNoneSpec)

/-- 'coatchecklaw15.HallOrder', WHERE WHAT IT READS IS OF BULK AT MOST 1048576: true; the input reads as it did. -/
def hallOrderUptoRow : OpenClaim := { program := "ytgpdkagmacpghaagreat", sum := "36a3591941d64d7e50ea4ab7c3ed0f6eb61beae4adfaa866409449bb46becf49", func := "coatcheck/coatchecklaw15.HallOrder", spec := "hallOrder", unfollowed := true, recurses := true, plainKeys := false, apart := false, narrowed := true }
def HallOrderUptoSaid : Prop := hallOrderUptoRow.holds Tryz.pinned (OpenSpec.upto hallOrderSpec)

/-- 'coatchecklaw16.OrderHall', WHERE WHAT IT READS IS OF BULK AT MOST 1048576: true; the input reads as it did. -/
def orderHallUptoRow : OpenClaim := { program := "ytgpdkagmacpghaagreat", sum := "36a3591941d64d7e50ea4ab7c3ed0f6eb61beae4adfaa866409449bb46becf49", func := "coatcheck/coatchecklaw16.OrderHall", spec := "orderHall", unfollowed := true, recurses := true, plainKeys := false, apart := false, narrowed := true }
def OrderHallUptoSaid : Prop := orderHallUptoRow.holds Tryz.pinned (OpenSpec.upto orderHallSpec)

/-- 'coatchecklaw20.PaceNone', WHERE WHAT IT READS IS OF BULK AT MOST 1048576: true; the input reads as it did. -/
def paceNoneUptoRow : OpenClaim := { program := "ytgpdkagmacpghaagreat", sum := "36a3591941d64d7e50ea4ab7c3ed0f6eb61beae4adfaa866409449bb46becf49", func := "coatcheck/coatchecklaw20.PaceNone", spec := "paceNone", unfollowed := true, recurses := true, plainKeys := false, apart := false, narrowed := true }
def PaceNoneUptoSaid : Prop := paceNoneUptoRow.holds Tryz.pinned (OpenSpec.upto paceNoneSpec)

end Rows
end Go.Proofs.YtgpdkagmacpghaaGreat
