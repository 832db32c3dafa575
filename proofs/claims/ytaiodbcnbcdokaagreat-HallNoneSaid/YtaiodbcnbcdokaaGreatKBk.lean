/- Part Bk. -/
import Derived.Below
import Derived.Laws.Rows
import Derived.Laws.CopyOwn
import Derived.Test.YtaiodbcnbcdokaaGreatKPz
set_option linter.unusedVariables false
set_option linter.unusedSimpArgs false
set_option linter.unusedSectionVars false
set_option maxRecDepth 100000
set_option maxHeartbeats 16000000
namespace Go.Proofs.YtaiodbcnbcdokaaGreat.Gro
open Go Go.RowKit
def Bk (w : World) (g : Nat) (cs : Array Value) (t : TypeId) : Prop := w.heap[g]? = some (.cells cs t (0, 0))
section
variable {w w' : World} {g : Nat} {cs : Array Value} {t : TypeId}
theorem Bk.lt (h : Bk w g cs t) : g < w.heap.size := (Array.getElem?_eq_some_iff.1 h).1
theorem Bk.cells (h : Bk w g cs t) : ∀ j, w.cell? ⟨g, j, none⟩ = cs[j]? := fun j => cell_of_row w g j cs t (0, 0) h
theorem Bk.frozen (h : Bk w g cs t) : ∀ j, w.frozen? ⟨g, j, none⟩ = false := fun j => frozen_of_row w g j cs t h
theorem Bk.keep (h : Bk w g cs t) (hb : Below w.heap.size w w') : Bk w' g cs t := (hb.block g h.lt).trans h
theorem Bk.new (w : World) (cs : Array Value) (t : TypeId) : Bk (w.alloc (.cells cs t)) w.heap.size cs t := heap_alloc_new w _
theorem Bk.alloc (h : Bk w g cs t) (o : Obj) : Bk (w.alloc o) g cs t := (heap_alloc_old w o g h.lt).trans h
theorem Bk.setRow (h : Bk w g cs t) (cs' : Array Value) : Bk (w.setRow g cs') g cs' t := setRow_heap w g cs cs' t (0, 0) h
theorem Bk.setCell (h : Bk w g cs t) (i : Nat) (v : Value) : Bk (w.setCell ⟨g, i, none⟩ v) g (cs.setIfInBounds i v) t := heap_setCell_same w g i cs t v h
theorem Bk.aA (h : Bk w g cs t) {a : Addr} (ha : g ≠ a.block) (v : Value) : Bk (w.setCell a v) g cs t := (heap_setCell_other w a g v ha).trans h
theorem Bk.aJ (h : Bk w g cs t) {g' : Nat} (ha : g ≠ g') (cs' : Array Value) : Bk (w.setRow g' cs') g cs t := (setRow_other w g' g cs' ha).trans h
end
end Go.Proofs.YtaiodbcnbcdokaaGreat.Gro
