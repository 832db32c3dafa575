/- bag.Count (made by genbag2.py). -/
import Derived.Test.YtkplkhcboobfaaaBagPrep
import Derived.WalkLawsBesides
namespace Go.Proofs.Ytkplkhcboobfaaa.Wo
open Go Go.RowKit Go.Proofs.Ytkplkhcboobfaaa.Gro Go.Proofs.Ytkplkhcboobfaaa.Own Go.Proofs.Ytkplkhcboobfaaa.Wd Go.Proofs.Ytkplkhcboobfaaa.Ap Go.Proofs.Ytkplkhcboobfaaa.Pl
set_option linter.unusedVariables false
set_option linter.unusedSimpArgs false
theorem bag_index0 (s : Wk) (w : World) : (Instr.index 61 (.agg #[.int .u64 s.p.t0, .slice s.l0.ad s.l0.len s.l0.cap, .int .u64 s.p.t1, .slice s.l1.ad s.l1.len s.l1.cap, .int .u64 s.p.t2, .slice s.l2.ad s.l2.len s.l2.cap]) (.int .i64 0)).run Try.prog w = .ok (.agg #[.int .u64 s.p.t0, .slice s.l0.ad s.l0.len s.l0.cap]) w := by kernel_rfl
theorem bag_index1 (s : Wk) (w : World) : (Instr.index 61 (.agg #[.int .u64 s.p.t0, .slice s.l0.ad s.l0.len s.l0.cap, .int .u64 s.p.t1, .slice s.l1.ad s.l1.len s.l1.cap, .int .u64 s.p.t2, .slice s.l2.ad s.l2.len s.l2.cap]) (.int .i64 1)).run Try.prog w = .ok (.agg #[.int .u64 s.p.t1, .slice s.l1.ad s.l1.len s.l1.cap]) w := by kernel_rfl
theorem bag_index2 (s : Wk) (w : World) : (Instr.index 61 (.agg #[.int .u64 s.p.t0, .slice s.l0.ad s.l0.len s.l0.cap, .int .u64 s.p.t1, .slice s.l1.ad s.l1.len s.l1.cap, .int .u64 s.p.t2, .slice s.l2.ad s.l2.len s.l2.cap]) (.int .i64 2)).run Try.prog w = .ok (.agg #[.int .u64 s.p.t2, .slice s.l2.ad s.l2.len s.l2.cap]) w := by kernel_rfl
set_option maxRecDepth 10000 in
set_option maxHeartbeats 1000000 in
theorem bagCount (s : Wk) (x : St) (hx : Few 900 x) (w : World) (h : Lies w s x) :
    Calls Try.prog 42 #[wv s] w fun e w' => e = .returned (.int .i64 ((x.l0.length + x.l1.length + x.l2.length : Nat) : Int)) ∧ Below w.heap.size w w' := by
  have e11 : ∀ s : Wk, (wc s)[11]? = some (.int .u64 s.p.t0) := fun _ => rfl
  have e12 : ∀ s : Wk, (wc s)[12]? = some (.slice s.l0.ad s.l0.len s.l0.cap) := fun _ => rfl
  have e13 : ∀ s : Wk, (wc s)[13]? = some (.int .u64 s.p.t1) := fun _ => rfl
  have e14 : ∀ s : Wk, (wc s)[14]? = some (.slice s.l1.ad s.l1.len s.l1.cap) := fun _ => rfl
  have e15 : ∀ s : Wk, (wc s)[15]? = some (.int .u64 s.p.t2) := fun _ => rfl
  have e16 : ∀ s : Wk, (wc s)[16]? = some (.slice s.l2.ad s.l2.len s.l2.cap) := fun _ => rfl
  have n0 := reads_len h.l0
  have n1 := reads_len h.l1
  have n2 := reads_len h.l2
  have m0 := hx.l0
  have m1 := hx.l1
  have m2 := hx.l2
  have i0 := bag_index0 s
  have i1 := bag_index1 s
  have i2 := bag_index2 s
  rw [← n0, ← n1, ← n2]
  rw [← n0] at m0
  rw [← n1] at m1
  rw [← n2] at m2
  clear n0 n1 n2
  have X0 := (Bk.new w (wc s) 63).cells
  go_enter Try.func42, Try.ntmps42
  go_wp2_with fail
  refine wp_loop_rounds 4 ?_
  rw [rounds_succ]
  go_wp2_with fail
  rw [rounds_succ]
  go_wp2_with fail
  rw [rounds_succ]
  go_wp2_with fail
  rw [rounds_succ]
  go_wp2_with fail
  go_ret
  exact ⟨congrArg (fun n => Ending.returned (.int .i64 n)) (by omega), ((((Below.refl _ _).alloc (Nat.le_refl _) _).alloc (by simp) _).alloc (by simp <;> omega) _).alloc (by simp <;> omega) _⟩
end Go.Proofs.Ytkplkhcboobfaaa.Wo
