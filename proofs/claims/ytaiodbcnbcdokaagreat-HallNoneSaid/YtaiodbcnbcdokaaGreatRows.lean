/-
  No cell of these rows narrows 'for every input' (looked for: loops, veiled, ifaces, maps, wideKeys, modest, calm, conditions, laid).
  DERIVED. THE GIVEN ROWS OF THIS SEAT. 12 by the template 'for every input the law returns true; each argument reads behind the call as it read before'; 0 by the template 'total and deterministic' (their statements: YtaiodbcnbcdokaaGreatTotals.lean).
  GIVEN WITH THE SEED: the statements are not yours to turn. If you find one false, say at which input.
  Laid BY PROGRAM, IN A SANDBOX (cutbox-rows.mjs): the forced cells as the released guide's own fill.sh prints them over the translation e9179737c6826e22… (all of the seat's roots in one cut). By AI agents, Wed Nov 11 2026. No macro, syntax, notation, axiom, sorry.
-/
import Derived.Test.YtaiodbcnbcdokaaGreatChecked
import GoSem.Claim
import GoSem.ClaimJoined
import GoSem.ClaimMapViews
import Derived.JoinedTies
import Derived.KernelRfl
namespace Go.Proofs.YtaiodbcnbcdokaaGreat
/- THE CELL 'sum', in the pinned program and in every row, IS THE sha256 OF THE DUMP (.gsa) THAT YtaiodbcnbcdokaaGreatProg.lean LOADS. Nothing in Lean hashes anything: it is a label: what it is worth is what the hold of that sum in a sandbox is worth. -/
noncomputable def Tryz.pinned : Pinned := { name := "ytaiodbcnbcdokaagreat", sum := "e9179737c6826e2287352a3f2a49de50bd413f84da17a364d5cfe1f8c97a17de", checked := Tryz.checked }
namespace Rows
def none {H : Type} : Left H := { results := [], args := [] }

/-- 'coatchecklaw13.WorkKeeps': WHATEVER THE INPUT: true; the input reads as it did. -/
def workKeepsSpec : ChangeSpec := { name := "workKeeps", fn := fun _ => fun
  | [d1, d2] => { results := [.lit (.bool true)], args := [d1, d2] }
  | _ => none }
def workKeepsRow : OpenClaim := { program := "ytaiodbcnbcdokaagreat", sum := "e9179737c6826e2287352a3f2a49de50bd413f84da17a364d5cfe1f8c97a17de", func := "coatcheck/coatchecklaw13.WorkKeeps", spec := "workKeeps", unfollowed := true, recurses := true, plainKeys := false, apart := false }
def WorkKeepsSaid : Prop := workKeepsRow.holds Tryz.pinned (OpenSpec.ofChange workKeepsSpec)

/-- ITS FALSE NEIGHBOUR: 'it returns false'. Refute it at one input. -/
def workKeepsWrong : ChangeSpec := { name := "workKeeps", fn := fun _ => fun
  | [d1, d2] => { results := [.lit (.bool false)], args := [d1, d2] }
  | _ => none }
def WorkKeepsWrongFalsely : Prop := workKeepsRow.holds Tryz.pinned (OpenSpec.ofChange workKeepsWrong)

/-- 'coatchecklaw15.HallNone': WHATEVER THE INPUT: true; the input reads as it did. -/
def hallNoneSpec : ChangeSpec := { name := "hallNone", fn := fun _ => fun
  | [d1, d2] => { results := [.lit (.bool true)], args := [d1, d2] }
  | _ => none }
def hallNoneRow : OpenClaim := { program := "ytaiodbcnbcdokaagreat", sum := "e9179737c6826e2287352a3f2a49de50bd413f84da17a364d5cfe1f8c97a17de", func := "coatcheck/coatchecklaw15.HallNone", spec := "hallNone", unfollowed := true, recurses := true, plainKeys := false, apart := false }
def HallNoneSaid : Prop := hallNoneRow.holds Tryz.pinned (OpenSpec.ofChange hallNoneSpec)

/-- ITS FALSE NEIGHBOUR: 'it returns false'. Refute it at one input. -/
def hallNoneWrong : ChangeSpec := { name := "hallNone", fn := fun _ => fun
  | [d1, d2] => { results := [.lit (.bool false)], args := [d1, d2] }
  | _ => none }
def HallNoneWrongFalsely : Prop := hallNoneRow.holds Tryz.pinned (OpenSpec.ofChange hallNoneWrong)

/-- 'coatchecklaw15.HallOrder': WHATEVER THE INPUT: true; the input reads as it did. -/
def hallOrderSpec : ChangeSpec := { name := "hallOrder", fn := fun _ => fun
  | [d1, d2, d3] => { results := [.lit (.bool true)], args := [d1, d2, d3] }
  | _ => none }
def hallOrderRow : OpenClaim := { program := "ytaiodbcnbcdokaagreat", sum := "e9179737c6826e2287352a3f2a49de50bd413f84da17a364d5cfe1f8c97a17de", func := "coatcheck/coatchecklaw15.HallOrder", spec := "hallOrder", unfollowed := true, recurses := true, plainKeys := false, apart := false }
def HallOrderSaid : Prop := hallOrderRow.holds Tryz.pinned (OpenSpec.ofChange hallOrderSpec)

/-- ITS FALSE NEIGHBOUR: 'it returns false'. Refute it at one input. -/
def hallOrderWrong : ChangeSpec := { name := "hallOrder", fn := fun _ => fun
  | [d1, d2, d3] => { results := [.lit (.bool false)], args := [d1, d2, d3] }
  | _ => none }
def HallOrderWrongFalsely : Prop := hallOrderRow.holds Tryz.pinned (OpenSpec.ofChange hallOrderWrong)

/-- 'coatchecklaw16.OrderHall': WHATEVER THE INPUT: true; the input reads as it did. -/
def orderHallSpec : ChangeSpec := { name := "orderHall", fn := fun _ => fun
  | [d1, d2, d3] => { results := [.lit (.bool true)], args := [d1, d2, d3] }
  | _ => none }
def orderHallRow : OpenClaim := { program := "ytaiodbcnbcdokaagreat", sum := "e9179737c6826e2287352a3f2a49de50bd413f84da17a364d5cfe1f8c97a17de", func := "coatcheck/coatchecklaw16.OrderHall", spec := "orderHall", unfollowed := true, recurses := true, plainKeys := false, apart := false }
def OrderHallSaid : Prop := orderHallRow.holds Tryz.pinned (OpenSpec.ofChange orderHallSpec)

/-- ITS FALSE NEIGHBOUR: 'it returns false'. Refute it at one input. -/
def orderHallWrong : ChangeSpec := { name := "orderHall", fn := fun _ => fun
  | [d1, d2, d3] => { results := [.lit (.bool false)], args := [d1, d2, d3] }
  | _ => none }
def OrderHallWrongFalsely : Prop := orderHallRow.holds Tryz.pinned (OpenSpec.ofChange orderHallWrong)

/-- 'coatchecklaw16.OrderFronts': WHATEVER THE INPUT: true; the input reads as it did. -/
def orderFrontsSpec : ChangeSpec := { name := "orderFronts", fn := fun _ => fun
  | [d1, d2, d3, d4] => { results := [.lit (.bool true)], args := [d1, d2, d3, d4] }
  | _ => none }
def orderFrontsRow : OpenClaim := { program := "ytaiodbcnbcdokaagreat", sum := "e9179737c6826e2287352a3f2a49de50bd413f84da17a364d5cfe1f8c97a17de", func := "coatcheck/coatchecklaw16.OrderFronts", spec := "orderFronts", unfollowed := true, recurses := true, plainKeys := false, apart := false }
def OrderFrontsSaid : Prop := orderFrontsRow.holds Tryz.pinned (OpenSpec.ofChange orderFrontsSpec)

/-- ITS FALSE NEIGHBOUR: 'it returns false'. Refute it at one input. -/
def orderFrontsWrong : ChangeSpec := { name := "orderFronts", fn := fun _ => fun
  | [d1, d2, d3, d4] => { results := [.lit (.bool false)], args := [d1, d2, d3, d4] }
  | _ => none }
def OrderFrontsWrongFalsely : Prop := orderFrontsRow.holds Tryz.pinned (OpenSpec.ofChange orderFrontsWrong)

/-- 'coatchecklaw20.PaceNone': WHATEVER THE INPUT: true; the input reads as it did. -/
def paceNoneSpec : ChangeSpec := { name := "paceNone", fn := fun _ => fun
  | [d1, d2] => { results := [.lit (.bool true)], args := [d1, d2] }
  | _ => none }
def paceNoneRow : OpenClaim := { program := "ytaiodbcnbcdokaagreat", sum := "e9179737c6826e2287352a3f2a49de50bd413f84da17a364d5cfe1f8c97a17de", func := "coatcheck/coatchecklaw20.PaceNone", spec := "paceNone", unfollowed := true, recurses := true, plainKeys := false, apart := false }
def PaceNoneSaid : Prop := paceNoneRow.holds Tryz.pinned (OpenSpec.ofChange paceNoneSpec)

/-- ITS FALSE NEIGHBOUR: 'it returns false'. Refute it at one input. -/
def paceNoneWrong : ChangeSpec := { name := "paceNone", fn := fun _ => fun
  | [d1, d2] => { results := [.lit (.bool false)], args := [d1, d2] }
  | _ => none }
def PaceNoneWrongFalsely : Prop := paceNoneRow.holds Tryz.pinned (OpenSpec.ofChange paceNoneWrong)

/-- 'coatchecklaw20.PaceAlone': WHATEVER THE INPUT: true; the input reads as it did. -/
def paceAloneSpec : ChangeSpec := { name := "paceAlone", fn := fun _ => fun
  | [d1, d2, d3, d4] => { results := [.lit (.bool true)], args := [d1, d2, d3, d4] }
  | _ => none }
def paceAloneRow : OpenClaim := { program := "ytaiodbcnbcdokaagreat", sum := "e9179737c6826e2287352a3f2a49de50bd413f84da17a364d5cfe1f8c97a17de", func := "coatcheck/coatchecklaw20.PaceAlone", spec := "paceAlone", unfollowed := true, recurses := true, plainKeys := false, apart := false }
def PaceAloneSaid : Prop := paceAloneRow.holds Tryz.pinned (OpenSpec.ofChange paceAloneSpec)

/-- ITS FALSE NEIGHBOUR: 'it returns false'. Refute it at one input. -/
def paceAloneWrong : ChangeSpec := { name := "paceAlone", fn := fun _ => fun
  | [d1, d2, d3, d4] => { results := [.lit (.bool false)], args := [d1, d2, d3, d4] }
  | _ => none }
def PaceAloneWrongFalsely : Prop := paceAloneRow.holds Tryz.pinned (OpenSpec.ofChange paceAloneWrong)

/-- 'coatchecklaw20.PaceAll': WHATEVER THE INPUT: true; the input reads as it did. -/
def paceAllSpec : ChangeSpec := { name := "paceAll", fn := fun _ => fun
  | [d1, d2, d3] => { results := [.lit (.bool true)], args := [d1, d2, d3] }
  | _ => none }
def paceAllRow : OpenClaim := { program := "ytaiodbcnbcdokaagreat", sum := "e9179737c6826e2287352a3f2a49de50bd413f84da17a364d5cfe1f8c97a17de", func := "coatcheck/coatchecklaw20.PaceAll", spec := "paceAll", unfollowed := true, recurses := true, plainKeys := false, apart := false }
def PaceAllSaid : Prop := paceAllRow.holds Tryz.pinned (OpenSpec.ofChange paceAllSpec)

/-- ITS FALSE NEIGHBOUR: 'it returns false'. Refute it at one input. -/
def paceAllWrong : ChangeSpec := { name := "paceAll", fn := fun _ => fun
  | [d1, d2, d3] => { results := [.lit (.bool false)], args := [d1, d2, d3] }
  | _ => none }
def PaceAllWrongFalsely : Prop := paceAllRow.holds Tryz.pinned (OpenSpec.ofChange paceAllWrong)

/-- 'coatchecktop.WholeTickets': WHATEVER THE INPUT: true; the input reads as it did. -/
def wholeTicketsSpec : ChangeSpec := { name := "wholeTickets", fn := fun _ => fun
  | [d1, d2, d3] => { results := [.lit (.bool true)], args := [d1, d2, d3] }
  | _ => none }
def wholeTicketsRow : OpenClaim := { program := "ytaiodbcnbcdokaagreat", sum := "e9179737c6826e2287352a3f2a49de50bd413f84da17a364d5cfe1f8c97a17de", func := "coatcheck/coatchecktop.WholeTickets", spec := "wholeTickets", unfollowed := true, recurses := true, plainKeys := false, apart := false }
def WholeTicketsSaid : Prop := wholeTicketsRow.holds Tryz.pinned (OpenSpec.ofChange wholeTicketsSpec)

/-- ITS FALSE NEIGHBOUR: 'it returns false'. Refute it at one input. -/
def wholeTicketsWrong : ChangeSpec := { name := "wholeTickets", fn := fun _ => fun
  | [d1, d2, d3] => { results := [.lit (.bool false)], args := [d1, d2, d3] }
  | _ => none }
def WholeTicketsWrongFalsely : Prop := wholeTicketsRow.holds Tryz.pinned (OpenSpec.ofChange wholeTicketsWrong)

/-- 'coatchecktop.WholeForged': WHATEVER THE INPUT: true; the input reads as it did. -/
def wholeForgedSpec : ChangeSpec := { name := "wholeForged", fn := fun _ => fun
  | [d1, d2, d3] => { results := [.lit (.bool true)], args := [d1, d2, d3] }
  | _ => none }
def wholeForgedRow : OpenClaim := { program := "ytaiodbcnbcdokaagreat", sum := "e9179737c6826e2287352a3f2a49de50bd413f84da17a364d5cfe1f8c97a17de", func := "coatcheck/coatchecktop.WholeForged", spec := "wholeForged", unfollowed := true, recurses := true, plainKeys := false, apart := false }
def WholeForgedSaid : Prop := wholeForgedRow.holds Tryz.pinned (OpenSpec.ofChange wholeForgedSpec)

/-- ITS FALSE NEIGHBOUR: 'it returns false'. Refute it at one input. -/
def wholeForgedWrong : ChangeSpec := { name := "wholeForged", fn := fun _ => fun
  | [d1, d2, d3] => { results := [.lit (.bool false)], args := [d1, d2, d3] }
  | _ => none }
def WholeForgedWrongFalsely : Prop := wholeForgedRow.holds Tryz.pinned (OpenSpec.ofChange wholeForgedWrong)

/-- 'coatchecktop.WholeEnds': WHATEVER THE INPUT: true; the input reads as it did. -/
def wholeEndsSpec : ChangeSpec := { name := "wholeEnds", fn := fun _ => fun
  | [d1, d2, d3, d4] => { results := [.lit (.bool true)], args := [d1, d2, d3, d4] }
  | _ => none }
def wholeEndsRow : OpenClaim := { program := "ytaiodbcnbcdokaagreat", sum := "e9179737c6826e2287352a3f2a49de50bd413f84da17a364d5cfe1f8c97a17de", func := "coatcheck/coatchecktop.WholeEnds", spec := "wholeEnds", unfollowed := true, recurses := true, plainKeys := false, apart := false }
def WholeEndsSaid : Prop := wholeEndsRow.holds Tryz.pinned (OpenSpec.ofChange wholeEndsSpec)

/-- ITS FALSE NEIGHBOUR: 'it returns false'. Refute it at one input. -/
def wholeEndsWrong : ChangeSpec := { name := "wholeEnds", fn := fun _ => fun
  | [d1, d2, d3, d4] => { results := [.lit (.bool false)], args := [d1, d2, d3, d4] }
  | _ => none }
def WholeEndsWrongFalsely : Prop := wholeEndsRow.holds Tryz.pinned (OpenSpec.ofChange wholeEndsWrong)

/-- 'coatchecktop.WholeRises': WHATEVER THE INPUT: true; the input reads as it did. -/
def wholeRisesSpec : ChangeSpec := { name := "wholeRises", fn := fun _ => fun
  | [d1, d2, d3, d4] => { results := [.lit (.bool true)], args := [d1, d2, d3, d4] }
  | _ => none }
def wholeRisesRow : OpenClaim := { program := "ytaiodbcnbcdokaagreat", sum := "e9179737c6826e2287352a3f2a49de50bd413f84da17a364d5cfe1f8c97a17de", func := "coatcheck/coatchecktop.WholeRises", spec := "wholeRises", unfollowed := true, recurses := true, plainKeys := false, apart := false }
def WholeRisesSaid : Prop := wholeRisesRow.holds Tryz.pinned (OpenSpec.ofChange wholeRisesSpec)

/-- ITS FALSE NEIGHBOUR: 'it returns false'. Refute it at one input. -/
def wholeRisesWrong : ChangeSpec := { name := "wholeRises", fn := fun _ => fun
  | [d1, d2, d3, d4] => { results := [.lit (.bool false)], args := [d1, d2, d3, d4] }
  | _ => none }
def WholeRisesWrongFalsely : Prop := wholeRisesRow.holds Tryz.pinned (OpenSpec.ofChange wholeRisesWrong)

/- THE SECOND FORM. 'bulk': how many values and letters a reading holds, each counted each time it is reached (what is shared counts as often as it is met; a slice's spare places count too). A statement '..UptoSaid' is the law's where the arguments, and the package variables that the reading takes, are together of bulk at most 1048576: NARROWER than '..Said'. Prove '..Said' where nothing that the law and all that it calls make is longer than what came in: it says more and counts as full. Else prove '..UptoSaid'. A law counts once. -/
mutual
def uptoBulk {H : Type} : DataW H → Nat
  | .lit (.string bytes) => bytes.length + 1
  | .lit _ => 1
  | .nil => 1
  | .ptr d => uptoBulk d + 1
  | .slice elems spare => uptoBulkAll elems + uptoBulkAll spare + 1
  | .agg parts => uptoBulkAll parts + 1
  | .iface _ d => uptoBulk d + 1
  | .map entries => uptoBulkEntries entries + 1
  | .held _ => 1
def uptoBulkAll {H : Type} : List (DataW H) → Nat
  | [] => 0
  | d :: r => uptoBulk d + uptoBulkAll r
def uptoBulkEntries {H : Type} : List (Lit × DataW H) → Nat
  | [] => 0
  | x :: r => uptoBulkEntry x + uptoBulkEntries r
def uptoBulkEntry {H : Type} : Lit × DataW H → Nat
  | (.string bytes, d) => bytes.length + uptoBulk d + 1
  | (_, d) => uptoBulk d + 1
 end
def uptoSmall : (H : Type) → List (DataW H) → Bool := fun _ ds => decide (uptoBulkAll ds ≤ 1048576)
def OpenSpec.upto (s : _root_.Go.ChangeSpec) : _root_.Go.OpenSpec := { _root_.Go.OpenSpec.ofChange s with cond := some uptoSmall }

/-- 'coatchecklaw13.WorkKeeps', WHERE WHAT IT READS IS OF BULK AT MOST 1048576: true; the input reads as it did. -/
def workKeepsUptoRow : OpenClaim := { program := "ytaiodbcnbcdokaagreat", sum := "e9179737c6826e2287352a3f2a49de50bd413f84da17a364d5cfe1f8c97a17de", func := "coatcheck/coatchecklaw13.WorkKeeps", spec := "workKeeps", unfollowed := true, recurses := true, plainKeys := false, apart := false, narrowed := true }
def WorkKeepsUptoSaid : Prop := workKeepsUptoRow.holds Tryz.pinned (OpenSpec.upto workKeepsSpec)

/-- 'coatchecklaw15.HallNone', WHERE WHAT IT READS IS OF BULK AT MOST 1048576: true; the input reads as it did. -/
def hallNoneUptoRow : OpenClaim := { program := "ytaiodbcnbcdokaagreat", sum := "e9179737c6826e2287352a3f2a49de50bd413f84da17a364d5cfe1f8c97a17de", func := "coatcheck/coatchecklaw15.HallNone", spec := "hallNone", unfollowed := true, recurses := true, plainKeys := false, apart := false, narrowed := true }
def HallNoneUptoSaid : Prop := hallNoneUptoRow.holds Tryz.pinned (OpenSpec.upto hallNoneSpec)

/-- 'coatchecklaw15.HallOrder', WHERE WHAT IT READS IS OF BULK AT MOST 1048576: true; the input reads as it did. -/
def hallOrderUptoRow : OpenClaim := { program := "ytaiodbcnbcdokaagreat", sum := "e9179737c6826e2287352a3f2a49de50bd413f84da17a364d5cfe1f8c97a17de", func := "coatcheck/coatchecklaw15.HallOrder", spec := "hallOrder", unfollowed := true, recurses := true, plainKeys := false, apart := false, narrowed := true }
def HallOrderUptoSaid : Prop := hallOrderUptoRow.holds Tryz.pinned (OpenSpec.upto hallOrderSpec)

/-- 'coatchecklaw16.OrderHall', WHERE WHAT IT READS IS OF BULK AT MOST 1048576: true; the input reads as it did. -/
def orderHallUptoRow : OpenClaim := { program := "ytaiodbcnbcdokaagreat", sum := "e9179737c6826e2287352a3f2a49de50bd413f84da17a364d5cfe1f8c97a17de", func := "coatcheck/coatchecklaw16.OrderHall", spec := "orderHall", unfollowed := true, recurses := true, plainKeys := false, apart := false, narrowed := true }
def OrderHallUptoSaid : Prop := orderHallUptoRow.holds Tryz.pinned (OpenSpec.upto orderHallSpec)

/-- 'coatchecklaw16.OrderFronts', WHERE WHAT IT READS IS OF BULK AT MOST 1048576: true; the input reads as it did. -/
def orderFrontsUptoRow : OpenClaim := { program := "ytaiodbcnbcdokaagreat", sum := "e9179737c6826e2287352a3f2a49de50bd413f84da17a364d5cfe1f8c97a17de", func := "coatcheck/coatchecklaw16.OrderFronts", spec := "orderFronts", unfollowed := true, recurses := true, plainKeys := false, apart := false, narrowed := true }
def OrderFrontsUptoSaid : Prop := orderFrontsUptoRow.holds Tryz.pinned (OpenSpec.upto orderFrontsSpec)

/-- 'coatchecklaw20.PaceNone', WHERE WHAT IT READS IS OF BULK AT MOST 1048576: true; the input reads as it did. -/
def paceNoneUptoRow : OpenClaim := { program := "ytaiodbcnbcdokaagreat", sum := "e9179737c6826e2287352a3f2a49de50bd413f84da17a364d5cfe1f8c97a17de", func := "coatcheck/coatchecklaw20.PaceNone", spec := "paceNone", unfollowed := true, recurses := true, plainKeys := false, apart := false, narrowed := true }
def PaceNoneUptoSaid : Prop := paceNoneUptoRow.holds Tryz.pinned (OpenSpec.upto paceNoneSpec)

/-- 'coatchecklaw20.PaceAlone', WHERE WHAT IT READS IS OF BULK AT MOST 1048576: true; the input reads as it did. -/
def paceAloneUptoRow : OpenClaim := { program := "ytaiodbcnbcdokaagreat", sum := "e9179737c6826e2287352a3f2a49de50bd413f84da17a364d5cfe1f8c97a17de", func := "coatcheck/coatchecklaw20.PaceAlone", spec := "paceAlone", unfollowed := true, recurses := true, plainKeys := false, apart := false, narrowed := true }
def PaceAloneUptoSaid : Prop := paceAloneUptoRow.holds Tryz.pinned (OpenSpec.upto paceAloneSpec)

/-- 'coatchecklaw20.PaceAll', WHERE WHAT IT READS IS OF BULK AT MOST 1048576: true; the input reads as it did. -/
def paceAllUptoRow : OpenClaim := { program := "ytaiodbcnbcdokaagreat", sum := "e9179737c6826e2287352a3f2a49de50bd413f84da17a364d5cfe1f8c97a17de", func := "coatcheck/coatchecklaw20.PaceAll", spec := "paceAll", unfollowed := true, recurses := true, plainKeys := false, apart := false, narrowed := true }
def PaceAllUptoSaid : Prop := paceAllUptoRow.holds Tryz.pinned (OpenSpec.upto paceAllSpec)

/-- 'coatchecktop.WholeTickets', WHERE WHAT IT READS IS OF BULK AT MOST 1048576: true; the input reads as it did. -/
def wholeTicketsUptoRow : OpenClaim := { program := "ytaiodbcnbcdokaagreat", sum := "e9179737c6826e2287352a3f2a49de50bd413f84da17a364d5cfe1f8c97a17de", func := "coatcheck/coatchecktop.WholeTickets", spec := "wholeTickets", unfollowed := true, recurses := true, plainKeys := false, apart := false, narrowed := true }
def WholeTicketsUptoSaid : Prop := wholeTicketsUptoRow.holds Tryz.pinned (OpenSpec.upto wholeTicketsSpec)

/-- 'coatchecktop.WholeForged', WHERE WHAT IT READS IS OF BULK AT MOST 1048576: true; the input reads as it did. -/
def wholeForgedUptoRow : OpenClaim := { program := "ytaiodbcnbcdokaagreat", sum := "e9179737c6826e2287352a3f2a49de50bd413f84da17a364d5cfe1f8c97a17de", func := "coatcheck/coatchecktop.WholeForged", spec := "wholeForged", unfollowed := true, recurses := true, plainKeys := false, apart := false, narrowed := true }
def WholeForgedUptoSaid : Prop := wholeForgedUptoRow.holds Tryz.pinned (OpenSpec.upto wholeForgedSpec)

/-- 'coatchecktop.WholeEnds', WHERE WHAT IT READS IS OF BULK AT MOST 1048576: true; the input reads as it did. -/
def wholeEndsUptoRow : OpenClaim := { program := "ytaiodbcnbcdokaagreat", sum := "e9179737c6826e2287352a3f2a49de50bd413f84da17a364d5cfe1f8c97a17de", func := "coatcheck/coatchecktop.WholeEnds", spec := "wholeEnds", unfollowed := true, recurses := true, plainKeys := false, apart := false, narrowed := true }
def WholeEndsUptoSaid : Prop := wholeEndsUptoRow.holds Tryz.pinned (OpenSpec.upto wholeEndsSpec)

/-- 'coatchecktop.WholeRises', WHERE WHAT IT READS IS OF BULK AT MOST 1048576: true; the input reads as it did. -/
def wholeRisesUptoRow : OpenClaim := { program := "ytaiodbcnbcdokaagreat", sum := "e9179737c6826e2287352a3f2a49de50bd413f84da17a364d5cfe1f8c97a17de", func := "coatcheck/coatchecktop.WholeRises", spec := "wholeRises", unfollowed := true, recurses := true, plainKeys := false, apart := false, narrowed := true }
def WholeRisesUptoSaid : Prop := wholeRisesUptoRow.holds Tryz.pinned (OpenSpec.upto wholeRisesSpec)

end Rows
end Go.Proofs.YtaiodbcnbcdokaaGreat
