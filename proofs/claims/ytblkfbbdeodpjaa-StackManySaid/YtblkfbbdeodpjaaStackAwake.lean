/- The example of layer 6 (made by genaw6.py). -/
import Derived.Test.YtblkfbbdeodpjaaStackStep
import Derived.Test.YtblkfbbdeodpjaaMemFirstWalk
namespace Go.Proofs.Ytblkfbbdeodpjaa.Me
open Go Go.RowKit Go.Proofs.Ytblkfbbdeodpjaa.Gro Go.Proofs.Ytblkfbbdeodpjaa.Own Go.Proofs.Ytblkfbbdeodpjaa.Wd Go.Proofs.Ytblkfbbdeodpjaa.Ap Go.Proofs.Ytblkfbbdeodpjaa.Pl Go.Proofs.Ytblkfbbdeodpjaa.Wo
set_option linter.unusedVariables false
set_option linter.unusedSimpArgs false
abbrev c6 : Cfg := ⟨1, 1, 1, 1, 2, 0, 1, 1⟩
theorem c6_wf : c6.Wf := ⟨by decide, by decide⟩
theorem c6_ok : Ok c6 := chk_ok.1 (by decide)
theorem build_c6 (w : World) : (Instr.build 24 #[(0, .int .i64 1), (1, .int .i64 1), (2, .int .i64 1), (3, .int .i64 1), (4, .int .i64 2), (6, .int .i64 1), (7, .int .u64 1)]).run Try.prog w = .ok (cv c6) w := run_build w _ _ _ (by kernel_rfl)
abbrev p60 : Pl := { pz with ln := 20 }
abbrev p61 : Pl := { pz with v := 1, h := 1, ln := 21 }
abbrev p62 : Pl := { pz with v := 1, h := 1, n := 2, ln := 22 }
abbrev p63 : Pl := { pz with v := 1, h := 1, n := 2, ln := 0 }
abbrev s60 : Wk := { wz with p := p60 }
theorem build_s60 (w : World) : (Instr.build 46 #[(0, .int .i64 20)]).run Try.prog w = .ok (wv s60) w := run_build w _ _ _ (by kernel_rfl)
def L60 : List Int := [2, 0, 1, 0, 0, 1048576, 2, 1048576, 0, 0, 0]
def L61 : List Int := [2, 0, 4294967298, 0, 0, 1048576, 2, 1048576, 0, 0, 0]
theorem first6 : firstL c6 = L60 := by decide
theorem wr60 : WR L60 := by unfold WR L60; decide
theorem lies_z6 (p : Pl) (w : World) : Lies w { wz with p := p } { zS with p := p } := ⟨rfl, Reads.nil _ _, Reads.nil _ _, Reads.nil _ _, Reads.nil _ _, Reads.nil _ _, Reads.nil _ _⟩
theorem few_z6 (p : Pl) : Few 1000 { zS with p := p } := ⟨Nat.zero_le _, Nat.zero_le _, Nat.zero_le _, Nat.zero_le _, Nat.zero_le _, Nat.zero_le _⟩
theorem run6a (a : Acc) : (stackLn c6 a L60 p60).fin = ⟨⟨1, 2, 0, 0, 1⟩, L60, p61, 0, true⟩ := by kernel_rfl
theorem run6b (a : Acc) : (stackLn c6 a L60 p61).fin = ⟨⟨1, 6, 0, 0, 2⟩, L60, p62, 0, true⟩ := by kernel_rfl
theorem run6c (a : Acc) : (stackLn c6 a L60 p62).fin = ⟨⟨3, 2, 1, 4294967298, 1⟩, L61, p63, 1, true⟩ := by kernel_rfl
theorem peek6 : ldV L61 2 = 4294967298 := by kernel_rfl
theorem head6 : Pk.hd 1 1 = 4294967298 := by decide
theorem pr6 {p : Pl} (h : p.ep = 0 ∧ p.u = 0 ∧ p.g = 0 ∧ p.t = 0 ∧ 0 ≤ p.h ∧ p.h ≤ 9 ∧ 0 ≤ p.n ∧ p.n ≤ 9 ∧ 0 ≤ p.v ∧ p.v ≤ 9) : PR p := by
  constructor <;> omega
section
variable {B : Nat} {w : World} {g gl cap : Nat} {a : Acc} {s : Wk}
theorem step6a (M : MemAt B w g c6 a gl cap L60) (h : Lies w s { zS with p := p60 }) : Calls Try.prog 22 #[.pointer (some ⟨g, 0, none⟩), wv s] w (GPost B g gl cap c6 ⟨⟨1, 2, 0, 0, 1⟩, L60, p61, 0, true⟩ { zS with p := p60 } w) := by
  have := stackStepAny M c6_wf (by decide) wr60 s _ (few_z6 _) h (pr6 (by decide))
  rwa [run6a] at this
theorem step6b (M : MemAt B w g c6 a gl cap L60) (h : Lies w s { zS with p := p61 }) : Calls Try.prog 22 #[.pointer (some ⟨g, 0, none⟩), wv s] w (GPost B g gl cap c6 ⟨⟨1, 6, 0, 0, 2⟩, L60, p62, 0, true⟩ { zS with p := p61 } w) := by
  have := stackStepAny M c6_wf (by decide) wr60 s _ (few_z6 _) h (pr6 (by decide))
  rwa [run6b] at this
theorem step6c (M : MemAt B w g c6 a gl cap L60) (h : Lies w s { zS with p := p62 }) : Calls Try.prog 22 #[.pointer (some ⟨g, 0, none⟩), wv s] w (GPost B g gl cap c6 ⟨⟨3, 2, 1, 4294967298, 1⟩, L61, p63, 1, true⟩ { zS with p := p62 } w) := by
  have := stackStepAny M c6_wf (by decide) wr60 s _ (few_z6 _) h (pr6 (by decide))
  rwa [run6c] at this
end
set_option maxRecDepth 100000 in
set_option maxHeartbeats 16000000 in
theorem awake6 (w : World) : Calls Try.prog 15 #[] w fun e w' => e = .returned (.bool true) ∧ Below w.heap.size w w' := by
  have hb0 := build_c6
  have hbs := build_s60
  have hn := newMem_ok c6 c6_wf c6_ok
  rw [first6] at hn
  have HN := Lib.hid hn
  have HPK := Lib.hid (fun (B : Nat) (w : World) (g gl cap : Nat) (a : Acc) (M : MemAt B w g c6 a gl cap L61) => peek6 ▸ peek_any M (by decide) 2)
  have HHD := Lib.hid (fun w => head6 ▸ Pk.rhead 1 1 (by omega) (by omega) w)
  clear hn
  go_enter Try.func15, Try.ntmps15
  go_wp2_with fail
  refine (HN.out _).mono ?_
  rintro e w1 ⟨g, gl, cap, rfl, M1, hb1⟩
  have Z1 := Bk.new w1 (wc wz) 46
  have X2 := boxed_bk w1 s60
  have bb2 := boxed_below w1 s60
  have M2 := M1.keep bb2
  have hw2 := hb1.trans (bb2.mono hb1.size)
  have lt1 := M1.lt
  have lx2 := X2.lt
  have sz1 := hb1.size
  have g0 := M1.g0
  have gl0 := M1.gl0
  obtain ⟨w2, hw2'⟩ : ∃ u, u = (w1.alloc (.cells (wc wz) 46)).setRow w1.heap.size (wc s60) := ⟨_, rfl⟩
  rw [← hw2'] at X2 M2 hw2 lx2
  clear bb2 hb1 M1
  go_wp2_with (first | ((with_reducible refine wpList_alloc_wz rfl rfl ?_)) | (refine wpList_store_row rfl 46 _ _ rfl (w1.heap.size) (wc s60) rfl rfl _ _ (by exact Z1) (by kernel_rfl) (by kernel_rfl) (by kernel_rfl) ?_); rw [← hw2']; clear hw2' Z1)
  obtain ⟨gx, hgx⟩ : ∃ u, u = w1.heap.size := ⟨_, rfl⟩
  rw [← hgx] at X2 lx2 lt1 sz1 ⊢
  clear hgx
  refine wp_loop_rounds 3 ?_
  rw [rounds_succ]
  go_wp2_with (refine wpList_load_row rfl 46 _ rfl (gx) rfl _ (wc s60) (0, 0) _ (by exact X2) Try.underlying46 rfl (by kernel_rfl) ?_)
  refine (step6a M2 (lies_z6 _ _)).mono ?_
  rintro e u1 ⟨t1, rfl, A1, N1, T1⟩
  have Xu1 := T1.bk X2 (by omega) (by omega)
  have hu1 := hw2.trans (T1.below (base := w.heap.size) (by omega) (by omega) hw2.size)
  have Zu1 := Bk.new u1 (wc wz) 46
  have Yv1 := boxed_bk u1 t1
  have bb1 := boxed_below u1 t1
  have Xv1 := Xu1.keep bb1
  have Nv1 := N1.keep bb1
  have Av1 := A1.keep bb1
  have hv1 := hu1.trans (bb1.mono hu1.size)
  have su1 := T1.size
  have sv1 := bb1.size
  obtain ⟨v1, hv1'⟩ : ∃ u, u = (u1.alloc (.cells (wc wz) 46)).setRow u1.heap.size (wc t1) := ⟨_, rfl⟩
  rw [← hv1'] at Yv1 Xv1 Nv1 Av1 hv1 sv1
  clear bb1 A1 N1 T1 Xu1
  have Xy1 := Xv1.setRow (wc t1)
  have Ny1 := Nv1.apart (g' := gx) (gl' := gx) ((Touch.refl gx gx v1).setRow (wc t1)) (by omega) (by omega) (by omega) (by omega)
  have Ay1 := Av1.setRow (g := gx) (by omega) (wc t1)
  have hy1 := below_setRow hv1 (show w.heap.size ≤ gx by omega) (wc t1)
  obtain ⟨y1, hy1'⟩ : ∃ u, u = v1.setRow gx (wc t1) := ⟨_, rfl⟩
  have sy1 : v1.heap.size = y1.heap.size := by rw [hy1']; simp
  rw [← hy1'] at Xy1 Ny1 Ay1 hy1
  go_wp2_with (first | ((with_reducible refine wpList_alloc_wz rfl rfl ?_)) | ((refine wpList_store_row rfl 46 _ _ rfl (u1.heap.size) (wc t1) rfl rfl _ _ (by exact Zu1) (by kernel_rfl) (by kernel_rfl) (by kernel_rfl) ?_); rw [← hv1']; clear hv1' Zu1) | (refine wpList_load_row rfl 46 _ rfl (u1.heap.size) rfl _ (wc t1) (0, 0) _ (by exact Yv1) Try.underlying46 rfl (by kernel_rfl) ?_) | ((refine wpList_store_row rfl 46 _ _ rfl (gx) (wc t1) rfl rfl _ _ (by exact Xv1) (by kernel_rfl) (by kernel_rfl) (by kernel_rfl) ?_); rw [← hy1']; clear hy1'))
  clear Xv1 Nv1 Av1 Yv1
  rw [rounds_succ]
  go_wp2_with (refine wpList_load_row rfl 46 _ rfl (gx) rfl _ (wc t1) (0, 0) _ (by exact Xy1) Try.underlying46 rfl (by kernel_rfl) ?_)
  refine (step6b Ny1 Ay1.lies).mono ?_
  rintro e u2 ⟨s5, rfl, A2, N2, T2⟩
  have Xu2 := T2.bk Xy1 (by omega) (by omega)
  have hu2 := hy1.trans (T2.below (base := w.heap.size) (by omega) (by omega) hy1.size)
  have Zu2 := Bk.new u2 (wc wz) 46
  have Yv2 := boxed_bk u2 s5
  have bb2 := boxed_below u2 s5
  have Xv2 := Xu2.keep bb2
  have Nv2 := N2.keep bb2
  have Av2 := A2.keep bb2
  have hv2 := hu2.trans (bb2.mono hu2.size)
  have su2 := T2.size
  have sv2 := bb2.size
  obtain ⟨v2, hv2'⟩ : ∃ u, u = (u2.alloc (.cells (wc wz) 46)).setRow u2.heap.size (wc s5) := ⟨_, rfl⟩
  rw [← hv2'] at Yv2 Xv2 Nv2 Av2 hv2 sv2
  clear bb2 A2 N2 T2 Xu2
  have Xy2 := Xv2.setRow (wc s5)
  have Ny2 := Nv2.apart (g' := gx) (gl' := gx) ((Touch.refl gx gx v2).setRow (wc s5)) (by omega) (by omega) (by omega) (by omega)
  have Ay2 := Av2.setRow (g := gx) (by omega) (wc s5)
  have hy2 := below_setRow hv2 (show w.heap.size ≤ gx by omega) (wc s5)
  obtain ⟨y2, hy2'⟩ : ∃ u, u = v2.setRow gx (wc s5) := ⟨_, rfl⟩
  have sy2 : v2.heap.size = y2.heap.size := by rw [hy2']; simp
  rw [← hy2'] at Xy2 Ny2 Ay2 hy2
  go_wp2_with (first | ((with_reducible refine wpList_alloc_wz rfl rfl ?_)) | ((refine wpList_store_row rfl 46 _ _ rfl (u2.heap.size) (wc s5) rfl rfl _ _ (by exact Zu2) (by kernel_rfl) (by kernel_rfl) (by kernel_rfl) ?_); rw [← hv2']; clear hv2' Zu2) | (refine wpList_load_row rfl 46 _ rfl (u2.heap.size) rfl _ (wc s5) (0, 0) _ (by exact Yv2) Try.underlying46 rfl (by kernel_rfl) ?_) | ((refine wpList_store_row rfl 46 _ _ rfl (gx) (wc s5) rfl rfl _ _ (by exact Xv2) (by kernel_rfl) (by kernel_rfl) (by kernel_rfl) ?_); rw [← hy2']; clear hy2'))
  clear Xv2 Nv2 Av2 Yv2
  have X6 := Xy2
  have M6 := Ny2
  have L6 := Ay2
  have hw6 := hy2
  clear Xy2 Ny2 Ay2 hy2 Xy1 Ny1 Ay1 hy1
  rw [rounds_succ]
  go_wp2_with (refine wpList_load_row rfl 46 _ rfl (gx) rfl _ (wc s5) (0, 0) _ (by exact X6) Try.underlying46 rfl (by kernel_rfl) ?_)
  refine (step6c M6 L6.lies).mono ?_
  rintro e w7 ⟨s7, rfl, A7, M7, T7⟩
  have X7 := T7.bk X6 (by omega) (by omega)
  have M8 := M7.apart (g' := gx) (gl' := gx) ((Touch.refl gx gx w7).setRow (wc s7)) (by omega) (by omega) (by omega) (by omega)
  have X8 := X7.setRow (wc s7)
  have hw8 := below_setRow (hw6.trans (T7.below (base := w.heap.size) (by omega) (by omega) hw6.size)) (show w.heap.size ≤ gx by omega) (wc s7)
  have hp7 := A7.p
  obtain ⟨w8, hw8'⟩ : ∃ u, u = w7.setRow gx (wc s7) := ⟨_, rfl⟩
  rw [← hw8'] at X8 M8 hw8
  have x8 := X8.cells
  have f23 : (wc s7)[23]? = some (.int .u64 1) := by
    have : (wc s7)[23]? = some (.int .u64 s7.p.h) := rfl
    rw [this, hp7]
  clear A7 M7 T7 X6 M6 L6 hw6 hp7 lt1
  go_wp2_with (first | (refine wpList_store_row rfl 46 _ _ rfl (gx) (wc s7) rfl rfl _ _ (by exact X7) (by kernel_rfl) (by kernel_rfl) (by kernel_rfl) ?_); rw [← hw8']; clear hw8' X7)
  refine (HPK.out _ _ _ _ _ _ M8).mono ?_
  rintro e w9 ⟨rfl, rfl⟩
  go_wp2_with fail
  refine (HHD.out _).mono ?_
  rintro e w9 ⟨rfl, rfl⟩
  go_wp2
  go_ret
  exact ⟨rfl, hw8⟩
end Go.Proofs.Ytblkfbbdeodpjaa.Me
