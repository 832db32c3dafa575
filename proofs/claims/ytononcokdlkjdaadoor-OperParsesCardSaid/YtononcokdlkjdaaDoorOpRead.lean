/- Layer 12: reading numbers and tickets (oper.readWord, readIndex, readTicket). -/
import Derived.Test.YtononcokdlkjdaaDoorOpRefText
import Derived.WalkSmall
namespace Go.Proofs.YtononcokdlkjdaaDoor.Opw
open Go Go.RowKit Go.ChangeMaps Go.Proofs.YtononcokdlkjdaaDoor.Gro Go.Proofs.YtononcokdlkjdaaDoor.Own Go.Proofs.YtononcokdlkjdaaDoor.Mr Go.Proofs.YtononcokdlkjdaaDoor.Opn
set_option linter.unusedVariables false
set_option linter.unusedSimpArgs false
/-- All blocks that were there are as they were, but for one. -/
structure Oth (g : Nat) (w w' : World) : Prop where
  os : w'.os = w.os
  tape : w'.tape = w.tape
  output : w'.output = w.output
  size : w.heap.size ≤ w'.heap.size
  block : ∀ i, i < w.heap.size → i ≠ g → w'.heap[i]? = w.heap[i]?
section
variable {g : Nat} {w0 w w' w'' : World}
theorem Oth.refl (g : Nat) (w : World) : Oth g w w := ⟨rfl, rfl, rfl, Nat.le_refl _, fun _ _ _ => rfl⟩
theorem Oth.of (h : Below w.heap.size w w') : Oth g w w' := ⟨h.os, h.tape, h.output, h.size, fun i hi _ => h.block i hi⟩
theorem Oth.trans (h : Oth g w w') (k : Oth g w' w'') : Oth g w w'' := ⟨k.os.trans h.os, k.tape.trans h.tape, k.output.trans h.output, Nat.le_trans h.size k.size, fun i hi hg => (k.block i (Nat.lt_of_lt_of_le hi h.size) hg).trans (h.block i hi hg)⟩
theorem Oth.cell (h : Oth g w w') (j : Nat) (v : Value) : Oth g w (w'.setCell ⟨g, j, none⟩ v) := ⟨h.os, h.tape, h.output, by simpa using h.size, fun i hi hg => (heap_setCell_other w' _ i v (show i ≠ g from hg)).trans (h.block i hi hg)⟩
theorem Oth.below {B : Nat} (h : Oth g w w') (hB : B ≤ g) (hw : B ≤ w.heap.size) : Below B w w' := ⟨h.os, h.tape, h.output, h.size, fun i hi => h.block i (by omega) (by omega)⟩
theorem Oth.bk {k : Nat} {cs : Array Value} {t : TypeId} (h : Oth g w w') (X : Bk w k cs t) (hk : k ≠ g) : Bk w' k cs t := (h.block k X.lt hk).trans X
theorem Oth.lb (h : Oth g w w') (hg : w0.heap.size ≤ g) (hw : w0.heap.size ≤ w.heap.size) (L : Lb w0) (hb : Below w0.heap.size w0 w) : Lb w' := L.keep (hb.trans (h.below hg hw))
end
theorem fReadWord (s : ByteArray) (hs : s.size ≤ 281474976710656) (w : World) (L : Lb w) (g j : Nat) (cs : Array Value) (X : Bk w g cs 24) (old : Value) (hj : cs[j]? = some old) :
    Calls Tryd.prog 35 #[.string s, .pointer (some ⟨g, j, none⟩)] w fun e w' => ∃ v : Int, Bk w' g (cs.setIfInBounds j (.int .u64 v)) 24 ∧ Oth g w w' ∧ 0 ≤ v ∧ v ≤ 18446744073709551615 ∧ e = .returned (.bool (rdN 64 s.data.toList).isSome) ∧ ∀ u : Nat, rdN 64 s.data.toList = some u → v = u := by
  have HP := Lib.hid (fParse64 s hs w L)
  have hlt := X.lt
  go_enter Tryd.func35, Tryd.ntmps35
  go_wp2_with fail
  refine HP.out.mono ?_
  rintro e w1 ⟨v, er, rfl, hb1, h0, h1, hor⟩
  have X1 := X.keep hb1
  have hlt1 := X1.lt
  have x1 := X1.cells
  have xf := X1.frozen
  have hc : w1.cell? ⟨g, j, none⟩ = some old := (x1 j).trans hj
  have HV := Lib.hid (And.intro h0 h1)
  rcases hor with ⟨u, hr, rfl, rfl⟩ | ⟨hr, t, p, rfl⟩
  · have HR := Lib.hid hr
    clear hr h0 h1 x1 HP
    go_wp2
    go_ret
    exact ⟨u, X1.setCell j _, (Oth.of hb1).cell j _, HV.out.1, HV.out.2, by rw [HR.out]; rfl, fun u' hu' => by rw [HR.out] at hu'; cases hu'; rfl⟩
  · have HR := Lib.hid hr
    clear hr h0 h1 x1 HP
    go_wp2
    go_ret
    exact ⟨v, X1.setCell j _, (Oth.of hb1).cell j _, HV.out.1, HV.out.2, by rw [HR.out]; rfl, fun u' hu' => by rw [HR.out] at hu'; cases hu'⟩
theorem fReadIndex (s : ByteArray) (hs : s.size ≤ 281474976710656) (w : World) (L : Lb w) (g j : Nat) (cs : Array Value) (X : Bk w g cs 24) (old : Value) (hj : cs[j]? = some old) :
    Calls Tryd.prog 37 #[.string s, .pointer (some ⟨g, j, none⟩)] w fun e w' => ∃ v : Int, Bk w' g (cs.setIfInBounds j (.int .i64 v)) 24 ∧ Oth g w w' ∧ 0 ≤ v ∧ v ≤ 9223372036854775807 ∧ e = .returned (.bool (rdN 63 s.data.toList).isSome) ∧ ∀ u : Nat, rdN 63 s.data.toList = some u → v = u := by
  have HP := Lib.hid (fParse63 s hs w L)
  have hlt := X.lt
  go_enter Tryd.func37, Tryd.ntmps37
  go_wp2_with fail
  refine HP.out.mono ?_
  rintro e w1 ⟨v, er, rfl, hb1, h0, h1, hor⟩
  have X1 := X.keep hb1
  have hlt1 := X1.lt
  have x1 := X1.cells
  have xf := X1.frozen
  have hc : w1.cell? ⟨g, j, none⟩ = some old := (x1 j).trans hj
  have h2 : v ≤ 9223372036854775807 := by have : ((2 ^ 63 - 1 : Nat) : Int) = 9223372036854775807 := by decide
                                          omega
  have HV := Lib.hid (And.intro h0 h2)
  rcases hor with ⟨u, hr, rfl, rfl⟩ | ⟨hr, t, p, rfl⟩
  · have HR := Lib.hid hr
    clear hr h1 x1 HP
    go_wp2
    go_ret
    exact ⟨u, X1.setCell j _, (Oth.of hb1).cell j _, HV.out.1, HV.out.2, by rw [HR.out]; rfl, fun u' hu' => by rw [HR.out] at hu'; cases hu'; rfl⟩
  · have HR := Lib.hid hr
    clear hr h1 x1 HP
    go_wp2
    go_ret
    exact ⟨v, X1.setCell j _, (Oth.of hb1).cell j _, HV.out.1, HV.out.2, by rw [HR.out]; rfl, fun u' hu' => by rw [HR.out] at hu'; cases hu'⟩
end Go.Proofs.YtononcokdlkjdaaDoor.Opw
