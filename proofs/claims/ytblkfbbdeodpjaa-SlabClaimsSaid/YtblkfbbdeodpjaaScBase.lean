/- The law SlabClaims (made by gensc2.py). -/
import Derived.Test.YtblkfbbdeodpjaaScNum
import Derived.Test.YtblkfbbdeodpjaaCb
import Derived.Test.YtblkfbbdeodpjaaSlabLines
import Derived.Test.YtblkfbbdeodpjaaSlabAwake
import Derived.Deep.CutRange
namespace Go.Proofs.Ytblkfbbdeodpjaa.Me
open Go Go.RowKit Go.Proofs.Ytblkfbbdeodpjaa.Gro Go.Proofs.Ytblkfbbdeodpjaa.Own Go.Proofs.Ytblkfbbdeodpjaa.Wd Go.Proofs.Ytblkfbbdeodpjaa.Ap Go.Proofs.Ytblkfbbdeodpjaa.Pl Go.Proofs.Ytblkfbbdeodpjaa.Wo
set_option linter.unusedVariables false
set_option linter.unusedSimpArgs false
theorem scP_map (xs : List Wk) (k : Nat) (h : k < xs.length) : scP (xs.map (·.p)) k = xs[k].p := by
  unfold scP
  rw [List.getD_eq_getElem?_getD, List.getElem?_map, List.getElem?_eq_getElem h]
  rfl
def s33 : Wk := { wz with p := scP0 }
theorem mul_small {M B j f : Nat} (hM : 1 ≤ M ∧ M ≤ 3) (hB : 1 ≤ B ∧ B ≤ 4) (hj : j < M) (hf : f ≤ B) : (IntKind.i64.wrap ((j : Int) * B) = (j : Int) * B ∧ wrap64 ((j : Int) * B) = (j : Int) * B) ∧ IntKind.i64.wrap ((j : Int) * B + f) = (j : Int) * B + f ∧ wrap64 ((j : Int) * B + f) = (j : Int) * B + f := by
  have hm : 0 ≤ (j : Int) * B ∧ (j : Int) * B ≤ 12 := by
    rcases (show B = 1 ∨ B = 2 ∨ B = 3 ∨ B = 4 by omega) with rfl | rfl | rfl | rfl <;> omega
  exact ⟨⟨IntWalk.i64_in _ (by omega), IntWalk.wrap64_in _ (by omega)⟩, IntWalk.i64_in _ (by omega), IntWalk.wrap64_in _ (by omega)⟩
theorem dec_small {f l : Nat} (hf : f ≤ 4) (hl : l = f + 1) : wrap64 ((l : Int) - 1) = (f : Int) ∧ IntKind.i64.wrap ((l : Int) - 1) = (f : Int) :=
  ⟨(IntWalk.wrap64_in _ (by omega)).trans (by omega), (IntWalk.i64_in _ (by omega)).trans (by omega)⟩
theorem inc_small {f l : Nat} (hf : f ≤ 8) (hl : l = f + 1) : wrap64 ((f : Int) + 1) = (l : Int) ∧ IntKind.i64.wrap ((f : Int) + 1) = (l : Int) :=
  ⟨(IntWalk.wrap64_in _ (by omega)).trans (by omega), (IntWalk.i64_in _ (by omega)).trans (by omega)⟩
theorem pos_small {f : Nat} (h : 1 ≤ f) : (f == 0) = false ∧ ((f : Int) == 0) = false := by
  constructor <;> simp <;> omega
theorem two_more {t : Int} (h : 0 ≤ t ∧ t ≤ 2000) : IntKind.u64.wrap (t + 2) = t + 2 := by rw [IntKind.wrap_u64]; omega
theorem late_no {e t : Int} (h : t = 0 ∨ t + 2 ≤ e) (hz : t ≠ 0) : decide (e < t + 2) = false := by simp; omega
set_option maxRecDepth 100000 in
set_option maxHeartbeats 16000000 in
theorem sc_long (n0 n1 n2 : Int) (hn0 : 0 ≤ n0 ∧ n0 < 256) (hn1 : 0 ≤ n1 ∧ n1 < 256) (hn2 : 0 ≤ n2 ∧ n2 < 256) (ad : Option Addr) (n cap : Nat) (hlong : 800 < n) (hmax : n ≤ 9223372036854775807) (w : World) : Calls Try.prog 7 #[.int .u8 n0, .int .u8 n1, .int .u8 n2, .slice ad n cap] w fun e w' => e = .returned (.bool true) ∧ Below w.heap.size w w' := by
  obtain ⟨N, hN⟩ : ∃ N : Nat, (N : Int) = 1 + n0 % 8 := ⟨(1 + n0 % 8).toNat, by omega⟩
  obtain ⟨M, hM⟩ : ∃ M : Nat, (M : Int) = 1 + n1 % 3 := ⟨(1 + n1 % 3).toNat, by omega⟩
  obtain ⟨B, hB⟩ : ∃ B : Nat, (B : Int) = 1 + n2 % 4 := ⟨(1 + n2 % 4).toNat, by omega⟩
  have hN8 : 1 ≤ N ∧ N ≤ 8 := by omega
  have hM8 : 1 ≤ M ∧ M ≤ 3 := by omega
  have hB8 : 1 ≤ B ∧ B ≤ 4 := by omega
  have hD : ScD N M B := ⟨hN8, hM8, hB8⟩
  have HNN := Lib.hid (show 1 + n0 % 8 = (N : Int) by omega)
  have HMM := Lib.hid (show 1 + n1 % 3 = (M : Int) by omega)
  have HBB := Lib.hid (show 1 + n2 % 4 = (B : Int) by omega)
  have hbc : ∀ w, (Instr.build 24 #[(0, .int .i64 (N : Int)), (1, .int .i64 (M : Int)), (2, .int .i64 (B : Int)), (3, .int .i64 1), (4, .int .i64 1), (6, .int .i64 1), (7, .int .u64 1)]).run Try.prog w = .ok (cv (cSc N M B)) w := fun w => run_build w _ _ _ (by kernel_rfl)
  clear hN hM hB
  go_enter Try.func7, Try.ntmps7
  go_wp2_with fail
  refine (awake8 _).mono ?_
  rintro e w1 ⟨rfl, hb1⟩
  have C1 := Bk.new w1 (ccM (cSc N M B)) 24
  have hw1 : Below w.heap.size w (w1.alloc (.cells (ccM (cSc N M B)) 24)) := hb1.alloc hb1.size _
  have sz1 := hb1.size
  have d1 : decide ((800 : Int) < (n : Int)) = true := by simp; omega
  go_wp2_with (first | (rw [HNN.out]) | (rw [HMM.out]) | (rw [HBB.out]))
  go_ret
  exact ⟨rfl, hw1⟩
end Go.Proofs.Ytblkfbbdeodpjaa.Me
