/- The example of layer 9 (made by gentake4.py). -/
import Derived.Test.YtblkfbbdeodpjaaTakeLine
import Derived.Test.YtblkfbbdeodpjaaStackAwake
namespace Go.Proofs.Ytblkfbbdeodpjaa.Me
open Go Go.RowKit Go.Proofs.Ytblkfbbdeodpjaa.Gro Go.Proofs.Ytblkfbbdeodpjaa.Own Go.Proofs.Ytblkfbbdeodpjaa.Wd Go.Proofs.Ytblkfbbdeodpjaa.Ap Go.Proofs.Ytblkfbbdeodpjaa.Pl Go.Proofs.Ytblkfbbdeodpjaa.Wo
set_option linter.unusedVariables false
set_option linter.unusedSimpArgs false
theorem build_c9 (w : World) : (Instr.build 24 #[(0, .int .i64 1), (1, .int .i64 1), (2, .int .i64 2), (3, .int .i64 1), (4, .int .i64 1), (6, .int .i64 1), (7, .int .u64 1)]).run Try.prog w = .ok (cv c9) w := run_build w _ _ _ (by kernel_rfl)
abbrev p9z : Pl := { pz with ep := 2 }
abbrev p90 : Pl := { pz with ep := 2, ln := 10 }
abbrev p91 : Pl := { pz with ep := 2, ln := 33 }
abbrev p92 : Pl := { pz with ep := 2, ln := 34 }
abbrev p93 : Pl := { pz with ep := 2, b := 1 }
abbrev s9z : Wk := { wz with p := p9z }
abbrev x93 : St := { zS with p := p93, hl := [1] }
theorem build_s9 (w : World) : (Instr.build 46 #[(3, .int .u64 2)]).run Try.prog w = .ok (wv s9z) w := run_build w _ _ _ (by kernel_rfl)
def L90 : List Int := firstL c9
def L91 : List Int := L90.set 4 1
theorem wr90 : WR L90 := by unfold WR L90; decide
theorem run9a (a : Acc) : (stackLn c9 a L90 p90).fin = ⟨(stackLn c9 a L90 p90).fin.a, L90, p9z, 2, true⟩ := by kernel_rfl
theorem run9b (a : Acc) : (slabLn c9 a L90 p91).fin = ⟨(slabLn c9 a L90 p91).fin.a, L90, p92, 0, true⟩ := by kernel_rfl
theorem run9c (a : Acc) : (slabLn c9 a L90 p92).fin = ⟨(slabLn c9 a L90 p92).fin.a, L91, p9z, 1, true⟩ := by kernel_rfl
theorem pr9 {p : Pl} (h : p.u = 0 ∧ p.g = 0 ∧ p.t = 0 ∧ p.h = 0 ∧ p.n = 0 ∧ p.v = 0 ∧ p.ep = 2) : PR p := by
  constructor <;> omega
theorem few9 (p : Pl) : Few 900 { zS with p := p } := ⟨Nat.zero_le _, Nat.zero_le _, Nat.zero_le _, Nat.zero_le _, Nat.zero_le _, Nat.zero_le _⟩
theorem reads_one9 (w : World) (x : Int) (t : TypeId) : Reads (w.alloc (.cells #[.int .i64 x] t)) .i64 (.slice (some ⟨w.heap.size, 0, none⟩) 1 1) [x] :=
  ⟨_, _, rfl, Nat.le_refl _, by decide, .inr ⟨_, _, rfl, by rw [World.size_alloc]; omega, fun i hi => by
    obtain rfl : i = 0 := by simpa using hi
    exact new_one w (.int .i64 x) t⟩⟩
section
variable {B : Nat} {w : World} {g gl cap : Nat} {a : Acc} {s : Wk}
theorem step9a (M : MemAt B w g c9 a gl cap L90) (h : Lies w s { zS with p := p90 }) : ∃ a', Calls Try.prog 82 #[.pointer (some ⟨g, 0, none⟩), wv s] w (GT B g gl cap c9 a' L90 0 true { zS with p := p91 } w) :=
  ⟨_, takeStepZ0 M s _ ((few9 _).mono (by omega)) h (Lib.hid fun gx s1 w1 H e A hg hs => tkl10 H (by decide) wr90 c9_wf ({ zS with p := p90 } : St) (few9 _) A (pr9 (by decide)) hs hg (by rw [e]) (run9a a) (by decide))⟩
theorem step9b (M : MemAt B w g c9 a gl cap L90) (h : Lies w s { zS with p := p91 }) : ∃ a', Calls Try.prog 82 #[.pointer (some ⟨g, 0, none⟩), wv s] w (GT B g gl cap c9 a' L90 0 true { zS with p := p92 } w) :=
  ⟨_, takeStepZ0 M s _ ((few9 _).mono (by omega)) h (Lib.hid fun gx s1 w1 H e A hg hs => tkl33 H (by decide) wr90 c9_wf ({ zS with p := p91 } : St) (few9 _) A (pr9 (by decide)) hs hg (by rw [e]) (run9b a))⟩
theorem step9c (M : MemAt B w g c9 a gl cap L90) (h : Lies w s { zS with p := p92 }) : ∃ a', Calls Try.prog 82 #[.pointer (some ⟨g, 0, none⟩), wv s] w (GT B g gl cap c9 a' L91 1 true x93 w) :=
  ⟨_, takeStepZ1 M s _ ((few9 _).mono (by omega)) h (by decide) (Lib.hid fun gx s1 w1 H e A hg hs => tkl34 H (by decide) wr90 ({ zS with p := p92 } : St) (few9 _) A (pr9 (by decide)) hs hg (by rw [e]) (run9c a) rfl)⟩
end
set_option maxRecDepth 100000 in
set_option maxHeartbeats 16000000 in
theorem awake9 (w : World) : Calls Try.prog 33 #[] w fun e w' => e = .returned (.bool true) ∧ Below w.heap.size w w' := by
  have hb0 := build_c9
  have hbs := build_s9
  have hn := newMem_ok c9 c9_wf c9_ok
  rw [show firstL c9 = L90 from rfl] at hn
  have HN := Lib.hid hn
  have HBG := Lib.hid (fun w => takeBegin s9z { zS with p := p9z } ((few9 _).mono (by omega)) w (lies_z6 _ _) rfl)
  clear hn
  go_enter Try.func33, Try.ntmps33
  go_wp2_with fail
  refine (HN.out _).mono ?_
  rintro e w1' ⟨g, gl, cap, rfl, M1', hb1'⟩
  go_wp2_with fail
  refine (HBG.out _).mono ?_
  rintro e w1 ⟨s90, rfl, A1, hb1⟩
  have M1 := M1'.keep hb1
  have sz0 := hb1.size
  have Z1 := Bk.new w1 (wc wz) 46
  have X2 := boxed_bk w1 s90
  have bb2 := boxed_below w1 s90
  have M2 := M1.keep bb2
  have A2 := A1.keep bb2
  have hw2 := (hb1'.trans (hb1.mono hb1'.size)).trans (bb2.mono (by have := hb1'.size; omega))
  have lt1 := M1.lt
  have lx2 := X2.lt
  have sz1 : w.heap.size ≤ w1.heap.size := by have := hb1'.size; omega
  have g0 := M1.g0
  have gl0 := M1.gl0
  obtain ⟨w2, hw2'⟩ : ∃ u, u = (w1.alloc (.cells (wc wz) 46)).setRow w1.heap.size (wc s90) := ⟨_, rfl⟩
  rw [← hw2'] at X2 M2 hw2 lx2 A2
  clear bb2 hb1 M1 hb1' M1' A1
  go_wp2_with (first | ((with_reducible refine wpList_alloc_wz rfl rfl ?_)) | (refine wpList_store_row rfl 46 _ _ rfl (w1.heap.size) (wc s90) rfl rfl _ _ (by exact Z1) (by kernel_rfl) (by kernel_rfl) (by kernel_rfl) ?_); rw [← hw2']; clear hw2' Z1)
  obtain ⟨gx, hgx⟩ : ∃ u, u = w1.heap.size := ⟨_, rfl⟩
  rw [← hgx] at X2 lx2 lt1 sz1 ⊢
  clear hgx sz0
  refine wp_loop_rounds 4 ?_
  rw [rounds_succ]
  obtain ⟨a1, hs1⟩ := step9a M2 A2.lies
  have HS1 := Lib.hid hs1
  clear hs1
  go_wp2_with (refine wpList_load_row rfl 46 _ rfl (gx) rfl _ (wc s90) (0, 0) _ (by exact X2) Try.underlying46 rfl (by kernel_rfl) ?_)
  refine HS1.out.mono ?_
  rintro e u1 ⟨t1, rfl, A1, N1, T1⟩
  have Xu1 := T1.bk X2 (by omega) (by omega)
  have hu1 := hw2.trans (T1.below (base := w.heap.size) (by omega) (by omega) hw2.size)
  have su1 := T1.size
  have Y1 := Xu1.setRow (wc t1)
  have Q1 := N1.apart (g' := gx) (gl' := gx) ((Touch.refl gx gx u1).setRow (wc t1)) (by omega) (by omega) (by omega) (by omega)
  have Ay1 := A1.setRow (g := gx) (by omega) (wc t1)
  have hy1 := below_setRow hu1 (show w.heap.size ≤ gx by omega) (wc t1)
  obtain ⟨y1, hy1'⟩ : ∃ u, u = u1.setRow gx (wc t1) := ⟨_, rfl⟩
  have sy1 : u1.heap.size = y1.heap.size := by rw [hy1']; simp
  rw [← hy1'] at Y1 Q1 Ay1 hy1
  clear HS1 A1 N1 T1 hu1 X2 M2 hw2
  go_wp2_with ((refine wpList_store_row rfl 46 _ _ rfl (gx) (wc t1) rfl rfl _ _ (by exact Xu1) (by kernel_rfl) (by kernel_rfl) (by kernel_rfl) ?_); rw [← hy1']; clear hy1' Xu1)
  clear A2
  rw [rounds_succ]
  obtain ⟨a2, hs2⟩ := step9b Q1 Ay1.lies
  have HS2 := Lib.hid hs2
  clear hs2
  go_wp2_with (refine wpList_load_row rfl 46 _ rfl (gx) rfl _ (wc t1) (0, 0) _ (by exact Y1) Try.underlying46 rfl (by kernel_rfl) ?_)
  refine HS2.out.mono ?_
  rintro e u2 ⟨t2, rfl, A2, N2, T2⟩
  have Xu2 := T2.bk Y1 (by omega) (by omega)
  have hu2 := hy1.trans (T2.below (base := w.heap.size) (by omega) (by omega) hy1.size)
  have su2 := T2.size
  have Y2 := Xu2.setRow (wc t2)
  have Q2 := N2.apart (g' := gx) (gl' := gx) ((Touch.refl gx gx u2).setRow (wc t2)) (by omega) (by omega) (by omega) (by omega)
  have Ay2 := A2.setRow (g := gx) (by omega) (wc t2)
  have hy2 := below_setRow hu2 (show w.heap.size ≤ gx by omega) (wc t2)
  obtain ⟨y2, hy2'⟩ : ∃ u, u = u2.setRow gx (wc t2) := ⟨_, rfl⟩
  have sy2 : u2.heap.size = y2.heap.size := by rw [hy2']; simp
  rw [← hy2'] at Y2 Q2 Ay2 hy2
  clear HS2 A2 N2 T2 hu2 Y1 Q1 hy1
  go_wp2_with ((refine wpList_store_row rfl 46 _ _ rfl (gx) (wc t2) rfl rfl _ _ (by exact Xu2) (by kernel_rfl) (by kernel_rfl) (by kernel_rfl) ?_); rw [← hy2']; clear hy2' Xu2)
  rw [rounds_succ]
  obtain ⟨a3, hs3⟩ := step9c Q2 Ay2.lies
  have HS3 := Lib.hid hs3
  clear hs3
  go_wp2_with (refine wpList_load_row rfl 46 _ rfl (gx) rfl _ (wc t2) (0, 0) _ (by exact Y2) Try.underlying46 rfl (by kernel_rfl) ?_)
  refine HS3.out.mono ?_
  rintro e u3 ⟨t3, rfl, A3, N3, T3⟩
  have Xu3 := T3.bk Y2 (by omega) (by omega)
  have hu3 := hy2.trans (T3.below (base := w.heap.size) (by omega) (by omega) hy2.size)
  have su3 := T3.size
  have Y3 := Xu3.setRow (wc t3)
  have Q3 := N3.apart (g' := gx) (gl' := gx) ((Touch.refl gx gx u3).setRow (wc t3)) (by omega) (by omega) (by omega) (by omega)
  have Ay3 := A3.setRow (g := gx) (by omega) (wc t3)
  have hy3 := below_setRow hu3 (show w.heap.size ≤ gx by omega) (wc t3)
  obtain ⟨y3, hy3'⟩ : ∃ u, u = u3.setRow gx (wc t3) := ⟨_, rfl⟩
  have sy3 : u3.heap.size = y3.heap.size := by rw [hy3']; simp
  rw [← hy3'] at Y3 Q3 Ay3 hy3
  clear HS3 A3 N3 T3 hu3 Y2 Q2 hy2
  go_wp2_with ((refine wpList_store_row rfl 46 _ _ rfl (gx) (wc t3) rfl rfl _ _ (by exact Xu3) (by kernel_rfl) (by kernel_rfl) (by kernel_rfl) ?_); rw [← hy3']; clear hy3' Xu3)
  have hp3 := Ay3.p
  have x18 : y3.cell? ⟨gx, 18, none⟩ = some (.int .i64 1) := by
    rw [Y3.cells, show (wc t3)[18]? = some (.int .i64 t3.p.b) from rfl, hp3]
  have x17 : y3.cell? ⟨gx, 17, none⟩ = some (.slice t3.hl.ad t3.hl.len t3.hl.cap) := by
    rw [Y3.cells]; rfl
  have rh := Ay3.hl.reads
  have szq := hy3.size
  have lx3 := Y3.lt
  have bn : Below y3.heap.size y3 (y3.alloc (.cells #[.int .i64 1] 3)) := (Below.refl _ _).alloc (Nat.le_refl _) _
  have HI := Lib.hid (ints (rh.keep bn) (reads_one9 y3 1 3))
  have hw4 := hy3.trans (bn.mono szq)
  clear hp3 Ay3 Ay2 Ay1 rh bn
  rw [rounds_succ]
  go_wp2_with fail
  refine HI.out.mono ?_
  rintro e w5 ⟨rfl, hb5⟩
  have hw5 := hw4.trans (hb5.mono hw4.size)
  go_wp2
  go_ret
  exact ⟨rfl, hw5⟩
end Go.Proofs.Ytblkfbbdeodpjaa.Me
