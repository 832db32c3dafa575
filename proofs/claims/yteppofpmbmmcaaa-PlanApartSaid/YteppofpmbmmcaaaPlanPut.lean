/- The closure of the law PlanApart: it counts an address. -/
import Derived.Test.YteppofpmbmmcaaaWords
namespace Go.Proofs.Yteppofpmbmmcaaa.Pl
open Go Go.RowKit Go.Proofs.Yteppofpmbmmcaaa.Gro Go.Proofs.Yteppofpmbmmcaaa.Own Go.Proofs.Yteppofpmbmmcaaa.Wd
set_option linter.unusedVariables false
set_option linter.unusedSimpArgs false

theorem put_in (gn gt g : Nat) (L : List Int) (n i : Nat) (hi : i < n) (hn : L.length = n) (hm : n ≤ 400) (x : Int) (hx : L[i]? = some x) (h0 : 0 ≤ x) (h1 : x ≤ 1000) (w : World) (N : Bk w gn #[.int .i64 n] 3) (T : Bk w gt #[.slice (some ⟨g, 0, none⟩) n n] 32) (A : Bk w g (iv .i64 L) 3) :
    Calls Try.prog 15 #[.int .i64 (i : Int), .pointer (some ⟨gn, 0, none⟩), .pointer (some ⟨gt, 0, none⟩)] w fun e w' => e = .returned (.tuple #[]) ∧ w' = w.setCell ⟨g, i, none⟩ (.int .i64 (x + 1)) := by
  have xn := N.cells
  have xt := T.cells
  have fa := A.frozen
  have ha : w.cell? ⟨g, i, none⟩ = some (.int .i64 x) := by
    rw [A.cells i]; simp [iv, hx]
  have hq0 : (0 : Int) ≤ (i : Int) := by omega
  have hq1 : (i : Int) < (n : Int) := by omega
  clear hx
  go_enter Try.func15, Try.ntmps15
  go_wp2
  go_end0
  exact ⟨rfl, rfl⟩
end Go.Proofs.Yteppofpmbmmcaaa.Pl
