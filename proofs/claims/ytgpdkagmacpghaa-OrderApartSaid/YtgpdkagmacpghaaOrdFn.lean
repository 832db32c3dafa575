/- The small functions of order (made by genord2.py). -/
import Derived.Test.YtgpdkagmacpghaaOpenEvents
import Derived.Test.YtgpdkagmacpghaaBk
import Derived.Test.YtgpdkagmacpghaaMapRaw
namespace Go.Proofs.Ytgpdkagmacpghaa.Od
open Go Go.RowKit Go.Proofs.Ytgpdkagmacpghaa.Gro Go.Proofs.Ytgpdkagmacpghaa.Own Go.Proofs.Ytgpdkagmacpghaa.Wd Go.Proofs.Ytgpdkagmacpghaa.Ap Go.Proofs.Ytgpdkagmacpghaa.Pl Go.Proofs.Ytgpdkagmacpghaa.Wo Go.Proofs.Ytgpdkagmacpghaa.Shp Go.Proofs.Ytgpdkagmacpghaa.Mr
set_option linter.unusedVariables false
set_option linter.unusedSimpArgs false
theorem kindBefore (k : Int) (w : World) : Calls Try.prog 51 #[.int .i64 k] w fun e w' => e = .returned (.tuple #[.int .i64 ((before k).getD 0), .bool (before k).isSome]) ∧ w = w' := by
  by_cases k1 : k = 1
  · have t1 : (k == 1) = true := by simp [k1]
    have e : before k = some 0 := by rw [before, if_pos k1]
    rw [e]
    clear k1 e
    go_enter Try.func51, Try.ntmps51
    go_wp2
    go_ret2
    exact ⟨rfl, rfl⟩
  have t1 : (k == 1) = false := by simp [k1]
  by_cases k3 : k = 3
  · have t3 : (k == 3) = true := by simp [k3]
    have e : before k = some 1 := by rw [before, if_neg k1, if_pos k3]
    rw [e]
    clear k1 k3 e
    go_enter Try.func51, Try.ntmps51
    go_wp2
    go_ret2
    exact ⟨rfl, rfl⟩
  have t3 : (k == 3) = false := by simp [k3]
  by_cases k4 : k = 4
  · have t4 : (k == 4) = true := by simp [k4]
    have e : before k = some 3 := by rw [before, if_neg k1, if_neg k3, if_pos k4]
    rw [e]
    clear k1 k3 k4 e
    go_enter Try.func51, Try.ntmps51
    go_wp2
    go_ret2
    exact ⟨rfl, rfl⟩
  have t4 : (k == 4) = false := by simp [k4]
  have e : before k = none := by rw [before, if_neg k1, if_neg k3, if_neg k4]
  rw [e]
  clear k1 k3 k4 e
  go_enter Try.func51, Try.ntmps51
  go_wp2
  go_ret2
  exact ⟨rfl, rfl⟩
set_option maxRecDepth 10000 in
theorem operationOf (e : Shp.Ev) (w : World) : Calls Try.prog 52 #[.agg (ec e)] w fun en w' => en = .returned (pairV (e.wo, e.n)) ∧ Below w.heap.size w w' := by
  have hb : ∀ w, (Instr.build 104 #[(0, .int .i64 e.wo), (1, .int .i64 e.n)]).run Try.prog w = .ok (pairV (e.wo, e.n)) w := fun w => run_build w _ _ _ (by kernel_rfl)
  have X0 := Bk.new w (ec e) 99
  have hw0 : Below w.heap.size w (w.alloc (.cells (ec e) 99)) := (Below.refl _ _).alloc (Nat.le_refl _) _
  have X1 := X0.alloc (.cells #[.int .i64 0, .int .i64 0] 104)
  have Y1 := Bk.new (w.alloc (.cells (ec e) 99)) #[.int .i64 0, .int .i64 0] 104
  rw [World.size_alloc] at Y1
  have hw1 : Below w.heap.size w ((w.alloc (.cells (ec e) 99)).alloc (.cells #[.int .i64 0, .int .i64 0] 104)) := hw0.alloc (by rw [World.size_alloc]; omega) _
  have x1 := X1.cells 1
  have x2 := X1.cells 2
  rw [show (ec e)[1]? = some (.int .i64 e.wo) from rfl] at x1
  rw [show (ec e)[2]? = some (.int .i64 e.n) from rfl] at x2
  have lx := X1.lt
  clear X0 X1 hw0
  go_enter Try.func52, Try.ntmps52
  go_wp2_with (refine wpList_store_row rfl 104 _ _ rfl (w.heap.size + 1) #[.int .i64 e.wo, .int .i64 e.n] rfl rfl _ _ (by exact Y1) (by kernel_rfl) (by kernel_rfl) (by kernel_rfl) ?_)
  have Y2 := Y1.setRow #[.int .i64 e.wo, .int .i64 e.n]
  refine bodyPost_ret (v := pairV (e.wo, e.n)) ?_ rfl ⟨rfl, below_setRow hw1 (by omega) _⟩
  exact results_cell_row (p := 2) (ty := 104) Try.results52 _ _ (w.heap.size + 1) 104 _ (0, 0) _ rfl Y2 Try.underlying104 rfl (by kernel_rfl)
end Go.Proofs.Ytgpdkagmacpghaa.Od
