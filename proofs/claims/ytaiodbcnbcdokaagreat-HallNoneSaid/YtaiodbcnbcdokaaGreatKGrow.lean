/- Part Grow. -/
import Derived.Deep.Quiet
import Derived.Deep.QuietTactic
import Derived.BigQuiet
import Derived.Below
import Derived.Test.YtaiodbcnbcdokaaGreatKPz
set_option linter.unusedVariables false
set_option linter.unusedSimpArgs false
set_option linter.unusedSectionVars false
set_option maxRecDepth 100000
set_option maxHeartbeats 16000000
namespace Go.Proofs.YtaiodbcnbcdokaaGreat.Gro
open Go Go.RowKit
def Gr (w : World) := {w' : World // Below w.heap.size w w'}
instance (w : World) : Nonempty (Gr w) := ⟨⟨w, Below.refl _ _⟩⟩
section
variable {P : Program} {id : Nat} {Q : Exit → Act → World → Prop} {a : Act} {w : World} {l : List Oper}
theorem aN (hm : P.follows .mixedOrders = true) (hB : Region.lexB .any l.toArray = true)
  (h : wpQuiet P l.toArray (fun w' => ∃ n : Gr w, w' = n.1) (fun a' => ∀ w', (∃ n : Gr w, w' = n.1) → Q .normal a' w') l a) : (Code.region id l.toArray true).wp P Q a w :=
 wp_region_quiet (C := fun w' => ∃ n : Gr w, w' = n.1) hm hB ⟨⟨_, (Below.refl w.heap.size w).drew⟩, rfl⟩ (by simpa using h)
theorem grown_of {f : FuncId} {args : Array Value} {n : Gr w} {v : Value} (h : Calls P f args n.1 fun e w' => e = .returned v ∧ Below n.1.heap.size n.1 w') : Calls P f args n.1 fun e w'' => e = .returned v ∧ ∃ m : Gr w, w'' = m.1 :=
 h.mono fun _ w'' ⟨he, hb⟩ => ⟨he, ⟨w'', n.2.trans (hb.mono n.2.size)⟩, rfl⟩
theorem bU {f : FuncId} {args : Array Value} {n : Gr w} {v : Value} (h : Calls P f args n.1 fun e w' => e = .returned v ∧ n.1 = w') : Calls P f args n.1 fun e w'' => e = .returned v ∧ ∃ m : Gr w, w'' = m.1 :=
 h.mono fun _ _ ⟨he, hb⟩ => ⟨he, n, hb.symm⟩
end
theorem gro_drewN {B : Nat} {a w : World} (h : Below B a w) {n : Nat} : Below B a (w.drewN n) := ⟨h.os, h.tape, h.output, h.size, h.block⟩
theorem cK {w : World} (n : Gr w) (b o : Nat) (h : b < w.heap.size) : n.1.cell? ⟨b, o, none⟩ = w.cell? ⟨b, o, none⟩ := n.2.cell (p := ⟨b, o, none⟩) h
theorem gU {W w1 : World} (hb : Below W.heap.size W w1) : (∀ b o, b < W.heap.size → w1.cell? ⟨b, o, none⟩ = W.cell? ⟨b, o, none⟩) ∧ (∀ b o, b < W.heap.size → w1.frozen? ⟨b, o, none⟩ = W.frozen? ⟨b, o, none⟩) :=
 ⟨fun b o h => hb.cell (p := ⟨b, o, none⟩) h, fun b o h => hb.frozen (p := ⟨b, o, none⟩) h⟩
end Go.Proofs.YtaiodbcnbcdokaaGreat.Gro
