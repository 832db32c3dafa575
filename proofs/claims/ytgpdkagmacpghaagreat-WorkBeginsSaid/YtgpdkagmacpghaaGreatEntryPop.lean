/- entry.pop and entry.push, for every state (made by genpop.py). -/
import Derived.Test.YtgpdkagmacpghaaGreatStepEntry
import Derived.Test.YtgpdkagmacpghaaGreatStacks
import Derived.Test.YtgpdkagmacpghaaGreatEntryFn
namespace Go.Proofs.YtgpdkagmacpghaaGreat.Me
open Go Go.RowKit Go.Proofs.YtgpdkagmacpghaaGreat.Gro Go.Proofs.YtgpdkagmacpghaaGreat.Own Go.Proofs.YtgpdkagmacpghaaGreat.Wd Go.Proofs.YtgpdkagmacpghaaGreat.Ap Go.Proofs.YtgpdkagmacpghaaGreat.Pl Go.Proofs.YtgpdkagmacpghaaGreat.Wo
set_option linter.unusedVariables false
set_option linter.unusedSimpArgs false
theorem Tri.of_row {g gl gx : Nat} {w : World} (cs : Array Value) : Tri g gl gx w (w.setRow gx cs) := by
  have t := (Touch.refl gx gx w).setRow cs
  exact ⟨t.os, t.tape, t.output, t.size, fun b hb _ _ h3 => t.block b hb h3 h3⟩
theorem MX.row {B : Nat} {w0 w : World} {g gl cap gx : Nat} {c : Cfg} {a : Acc} {L : List Int} {s : Wk} (h : MX B w0 g gl cap gx c a L s w) (s' : Wk) : MX B w0 g gl cap gx c a L s' (w.setRow gx (wc s')) :=
  ⟨h.M.apart (g' := gx) (gl' := gx) ((Touch.refl gx gx w).setRow _) h.n1.symm h.n1.symm h.n2.symm h.n2.symm, h.X.setRow _, h.T.trans (Tri.of_row _), h.n1, h.n2⟩
set_option maxRecDepth 10000 in
set_option maxHeartbeats 4000000 in
theorem enPopN {B n : Nat} {w0 w : World} {g gl cap gx : Nat} {c : Cfg} {a : Acc} {L : List Int} {s : Wk} (h : MX B w0 g gl cap gx c a L s w) (hm : L.length ≤ 1000) (hL : WR L) (hf : c.Wf) (x : St) (hx : Few 1000 x) (A : Anew n w s x) (hp : PR x.p) (hn : n ≤ w.heap.size) (hg : gx < n) (r : Res) (hr : r = (stackLn c a L x.p).fin) (ho : r.way ≠ 1) :
    Calls Tryz.prog 198 #[.pointer (some ⟨g, 0, none⟩), .pointer (some ⟨gx, 0, none⟩)] w fun e w' => ∃ s3 : Wk, e = .returned (.int .i64 r.way) ∧ MX B w0 g gl cap gx c r.a r.L { s3 with p := r.p } w' ∧ Anew n w' { s3 with p := x.p } x := by
  have HS := Lib.hid (stackStepAny h.M hf hm hL s x hx A.lies hp)
  rw [← hr] at HS
  have hk : ∀ v : Int, (v = r.way) → (v == 1) = false := fun v e => by subst e; simp [ho]
  obtain ⟨ra, rL, rp, rw', rok⟩ := r
  simp only at *
  have t1 : (rw' == 1) = false := hk _ rfl
  have t2 : (rw' != 1) = true := by simp only [bne, t1]; rfl
  clear hk hr
  have X0 := h.X
  go_enter Tryz.func198, Tryz.ntmps198
  go_wp2_with (first | (refine wpList_load_row rfl 34 _ rfl gx rfl _ (wc s) (0, 0) _ (by exact X0) Tryz.underlying34 rfl (by kernel_rfl) ?_))
  refine HS.out.mono ?_
  rintro e w1 ⟨s2, rfl, A2, M2, T2⟩
  have H2 := h.mem M2 T2
  clear X0
  have b3 := boxed_below w1 s2
  have Z3 := boxed_bk w1 s2
  have H3 := H2.keep b3
  have A3 := A2.keep b3
  have Y1 : Bk (w1.alloc (.cells (wc wz) 34)) w1.heap.size (wc wz) 34 := Bk.new _ _ _
  obtain ⟨w3, hw3⟩ : ∃ u, u = (w1.alloc (.cells (wc wz) 34)).setRow w1.heap.size (wc s2) := ⟨_, rfl⟩
  rw [← hw3] at b3 Z3 H3 A3
  have H4 := H3.row s2
  have X3 := H3.X
  have A4 := (A3.base hn).setRow hg (wc s2)
  go_wp2_with (first | ((with_reducible refine wpList_alloc_wz rfl rfl ?_)) | (refine wpList_store_row rfl 34 _ _ rfl w1.heap.size (wc s2) rfl rfl _ _ (by exact Y1) (by kernel_rfl) (by kernel_rfl) (by kernel_rfl) ?_; rw [← hw3]; clear hw3 Y1) | (refine wpList_load_row rfl 34 _ rfl w1.heap.size rfl _ (wc s2) (0, 0) _ (by exact Z3) Tryz.underlying34 rfl (by kernel_rfl) ?_) | (refine wpList_store_row rfl 34 _ _ rfl gx (wc s2) rfl rfl _ _ (by exact X3) (by kernel_rfl) (by kernel_rfl) (by kernel_rfl) ?_))
  have es : ({ s2 with p := rp } : Wk) = s2 := by have e := A2.p; simp only at e; subst e; rfl
  go_ret
  exact ⟨s2, rfl, by rw [es]; exact H4, ⟨rfl, A4.rk, A4.l0, A4.l1, A4.l2, A4.hl, A4.rd⟩⟩
set_option maxRecDepth 10000 in
set_option maxHeartbeats 4000000 in
theorem enPushN {B n : Nat} {w0 w : World} {g gl cap gx : Nat} {c : Cfg} {a : Acc} {L : List Int} {s : Wk} (h : MX B w0 g gl cap gx c a L s w) (hm : L.length ≤ 1000) (hL : WR L) (hf : c.Wf) (x : St) (hx : Few 1000 x) (A : Anew n w s x) (hp : PR x.p) (hn : n ≤ w.heap.size) (hg : gx < n) (r : Res) (hr : r = (stackLn c a L x.p).fin) (ho : r.way ≠ 1) :
    Calls Tryz.prog 199 #[.pointer (some ⟨g, 0, none⟩), .pointer (some ⟨gx, 0, none⟩)] w fun e w' => ∃ s3 : Wk, e = .returned (.int .i64 r.way) ∧ MX B w0 g gl cap gx c r.a r.L { s3 with p := r.p } w' ∧ Anew n w' { s3 with p := x.p } x := by
  have HS := Lib.hid (stackStepAny h.M hf hm hL s x hx A.lies hp)
  rw [← hr] at HS
  have hk : ∀ v : Int, (v = r.way) → (v == 1) = false := fun v e => by subst e; simp [ho]
  obtain ⟨ra, rL, rp, rw', rok⟩ := r
  simp only at *
  have t1 : (rw' == 1) = false := hk _ rfl
  have t2 : (rw' != 1) = true := by simp only [bne, t1]; rfl
  clear hk hr
  have X0 := h.X
  go_enter Tryz.func199, Tryz.ntmps199
  go_wp2_with (first | (refine wpList_load_row rfl 34 _ rfl gx rfl _ (wc s) (0, 0) _ (by exact X0) Tryz.underlying34 rfl (by kernel_rfl) ?_))
  refine HS.out.mono ?_
  rintro e w1 ⟨s2, rfl, A2, M2, T2⟩
  have H2 := h.mem M2 T2
  clear X0
  have b3 := boxed_below w1 s2
  have Z3 := boxed_bk w1 s2
  have H3 := H2.keep b3
  have A3 := A2.keep b3
  have Y1 : Bk (w1.alloc (.cells (wc wz) 34)) w1.heap.size (wc wz) 34 := Bk.new _ _ _
  obtain ⟨w3, hw3⟩ : ∃ u, u = (w1.alloc (.cells (wc wz) 34)).setRow w1.heap.size (wc s2) := ⟨_, rfl⟩
  rw [← hw3] at b3 Z3 H3 A3
  have H4 := H3.row s2
  have X3 := H3.X
  have A4 := (A3.base hn).setRow hg (wc s2)
  go_wp2_with (first | ((with_reducible refine wpList_alloc_wz rfl rfl ?_)) | (refine wpList_store_row rfl 34 _ _ rfl w1.heap.size (wc s2) rfl rfl _ _ (by exact Y1) (by kernel_rfl) (by kernel_rfl) (by kernel_rfl) ?_; rw [← hw3]; clear hw3 Y1) | (refine wpList_load_row rfl 34 _ rfl w1.heap.size rfl _ (wc s2) (0, 0) _ (by exact Z3) Tryz.underlying34 rfl (by kernel_rfl) ?_) | (refine wpList_store_row rfl 34 _ _ rfl gx (wc s2) rfl rfl _ _ (by exact X3) (by kernel_rfl) (by kernel_rfl) (by kernel_rfl) ?_))
  have es : ({ s2 with p := rp } : Wk) = s2 := by have e := A2.p; simp only at e; subst e; rfl
  go_ret
  exact ⟨s2, rfl, by rw [es]; exact H4, ⟨rfl, A4.rk, A4.l0, A4.l1, A4.l2, A4.hl, A4.rd⟩⟩
set_option maxRecDepth 10000 in
set_option maxHeartbeats 4000000 in
theorem enPopY {B n : Nat} {w0 w : World} {g gl cap gx : Nat} {c : Cfg} {a : Acc} {L : List Int} {s : Wk} (h : MX B w0 g gl cap gx c a L s w) (hm : L.length ≤ 1000) (hL : WR L) (hf : c.Wf) (x : St) (hx : Few 1000 x) (A : Anew n w s x) (hp : PR x.p) (hn : n ≤ w.heap.size) (hg : gx < n) (r : Res) (hr : r = (stackLn c a L x.p).fin) (ho : r.way = 1) :
    Calls Tryz.prog 198 #[.pointer (some ⟨g, 0, none⟩), .pointer (some ⟨gx, 0, none⟩)] w fun e w' => ∃ s3 : Wk, e = .returned (.int .i64 0) ∧ MX B w0 g gl cap gx c r.a r.L { s3 with p := { r.p with i := wrap64 r.p.h, ln := 40 } } w' ∧ Anew n w' { s3 with p := x.p } x := by
  have HS := Lib.hid (stackStepAny h.M hf hm hL s x hx A.lies hp)
  rw [← hr] at HS
  have hk : ∀ v : Int, (v = r.way) → (v == 1) = true := fun v e => by subst e; simp [ho]
  obtain ⟨ra, rL, rp, rw', rok⟩ := r
  simp only at *
  have t1 : (rw' == 1) = true := hk _ rfl
  have t2 : (rw' != 1) = false := by simp only [bne, t1]; rfl
  clear hk hr
  have f0 : ∀ s : Wk, (wc s)[0]? = some (.int .i64 s.p.ln) := fun _ => rfl
  have f20 : ∀ s : Wk, (wc s)[20]? = some (.int .i64 s.p.i) := fun _ => rfl
  have f23 : ∀ s : Wk, (wc s)[23]? = some (.int .u64 s.p.h) := fun _ => rfl
  have X0 := h.X
  go_enter Tryz.func198, Tryz.ntmps198
  go_wp2_with (first | (refine wpList_load_row rfl 34 _ rfl gx rfl _ (wc s) (0, 0) _ (by exact X0) Tryz.underlying34 rfl (by kernel_rfl) ?_))
  refine HS.out.mono ?_
  rintro e w1 ⟨s2, rfl, A2, M2, T2⟩
  have H2 := h.mem M2 T2
  clear X0
  have b3 := boxed_below w1 s2
  have Z3 := boxed_bk w1 s2
  have H3 := H2.keep b3
  have A3 := A2.keep b3
  have Y1 : Bk (w1.alloc (.cells (wc wz) 34)) w1.heap.size (wc wz) 34 := Bk.new _ _ _
  obtain ⟨w3, hw3⟩ : ∃ u, u = (w1.alloc (.cells (wc wz) 34)).setRow w1.heap.size (wc s2) := ⟨_, rfl⟩
  rw [← hw3] at b3 Z3 H3 A3
  have H4 := H3.row s2
  have X3 := H3.X
  have A4 := (A3.base hn).setRow hg (wc s2)
  obtain ⟨w5, hw5⟩ : ∃ u, u = w3.setRow gx (wc s2) := ⟨_, rfl⟩
  rw [← hw5] at H4 A4
  have x5 := H4.X.cells
  have z5 := H4.X.frozen
  have e5 : (w5.cell? ⟨gx, 20, none⟩).isSome = true := by rw [x5, f20]; rfl
  have H5 := H4.set (s' := { s2 with p := { s2.p with i := (wrap64 s2.p.h) } }) 20 (.int .i64 (wrap64 s2.p.h)) rfl
  have A4 := A4.setCell hg 20 (.int .i64 (wrap64 s2.p.h))
  have y5 : ((w5.setCell ⟨gx, 20, none⟩ (.int .i64 (wrap64 s2.p.h))).cell? ⟨gx, 0, none⟩).isSome = true := by rw [H5.X.cells, f0]; rfl
  have H6 := H5.set (s' := { s2 with p := { s2.p with i := (wrap64 s2.p.h), ln := 40 } }) 0 (.int .i64 40) rfl
  have A4 := A4.setCell hg 0 (.int .i64 40)
  go_wp2_with (first | ((with_reducible refine wpList_alloc_wz rfl rfl ?_)) | (refine wpList_store_row rfl 34 _ _ rfl w1.heap.size (wc s2) rfl rfl _ _ (by exact Y1) (by kernel_rfl) (by kernel_rfl) (by kernel_rfl) ?_; rw [← hw3]; clear hw3 Y1) | (refine wpList_load_row rfl 34 _ rfl w1.heap.size rfl _ (wc s2) (0, 0) _ (by exact Z3) Tryz.underlying34 rfl (by kernel_rfl) ?_) | (refine wpList_store_row rfl 34 _ _ rfl gx (wc s2) rfl rfl _ _ (by exact X3) (by kernel_rfl) (by kernel_rfl) (by kernel_rfl) ?_; rw [← hw5]; clear hw5 X3))
  have ep := A2.p
  simp only at ep
  go_ret
  refine ⟨s2, rfl, ?_, ⟨rfl, A4.rk, A4.l0, A4.l1, A4.l2, A4.hl, A4.rd⟩⟩
  rw [← ep]
  exact H6
set_option maxRecDepth 10000 in
set_option maxHeartbeats 4000000 in
theorem enPushY {B n : Nat} {w0 w : World} {g gl cap gx : Nat} {c : Cfg} {a : Acc} {L : List Int} {s : Wk} (h : MX B w0 g gl cap gx c a L s w) (hm : L.length ≤ 1000) (hL : WR L) (hf : c.Wf) (x : St) (hx : Few 1000 x) (A : Anew n w s x) (hp : PR x.p) (hn : n ≤ w.heap.size) (hg : gx < n) (r : Res) (hr : r = (stackLn c a L x.p).fin) (ho : r.way = 1) :
    Calls Tryz.prog 199 #[.pointer (some ⟨g, 0, none⟩), .pointer (some ⟨gx, 0, none⟩)] w fun e w' => ∃ s3 : Wk, e = .returned (.int .i64 1) ∧ MX B w0 g gl cap gx c r.a r.L { s3 with p := { r.p with i := 0 } } w' ∧ Anew n w' { s3 with p := x.p } x := by
  have HS := Lib.hid (stackStepAny h.M hf hm hL s x hx A.lies hp)
  rw [← hr] at HS
  have hk : ∀ v : Int, (v = r.way) → (v == 1) = true := fun v e => by subst e; simp [ho]
  obtain ⟨ra, rL, rp, rw', rok⟩ := r
  simp only at *
  have t1 : (rw' == 1) = true := hk _ rfl
  have t2 : (rw' != 1) = false := by simp only [bne, t1]; rfl
  clear hk hr
  have f0 : ∀ s : Wk, (wc s)[0]? = some (.int .i64 s.p.ln) := fun _ => rfl
  have f20 : ∀ s : Wk, (wc s)[20]? = some (.int .i64 s.p.i) := fun _ => rfl
  have f23 : ∀ s : Wk, (wc s)[23]? = some (.int .u64 s.p.h) := fun _ => rfl
  have X0 := h.X
  go_enter Tryz.func199, Tryz.ntmps199
  go_wp2_with (first | (refine wpList_load_row rfl 34 _ rfl gx rfl _ (wc s) (0, 0) _ (by exact X0) Tryz.underlying34 rfl (by kernel_rfl) ?_))
  refine HS.out.mono ?_
  rintro e w1 ⟨s2, rfl, A2, M2, T2⟩
  have H2 := h.mem M2 T2
  clear X0
  have b3 := boxed_below w1 s2
  have Z3 := boxed_bk w1 s2
  have H3 := H2.keep b3
  have A3 := A2.keep b3
  have Y1 : Bk (w1.alloc (.cells (wc wz) 34)) w1.heap.size (wc wz) 34 := Bk.new _ _ _
  obtain ⟨w3, hw3⟩ : ∃ u, u = (w1.alloc (.cells (wc wz) 34)).setRow w1.heap.size (wc s2) := ⟨_, rfl⟩
  rw [← hw3] at b3 Z3 H3 A3
  have H4 := H3.row s2
  have X3 := H3.X
  have A4 := (A3.base hn).setRow hg (wc s2)
  obtain ⟨w5, hw5⟩ : ∃ u, u = w3.setRow gx (wc s2) := ⟨_, rfl⟩
  rw [← hw5] at H4 A4
  have x5 := H4.X.cells
  have z5 := H4.X.frozen
  have e5 : (w5.cell? ⟨gx, 20, none⟩).isSome = true := by rw [x5, f20]; rfl
  have H5 := H4.set (s' := { s2 with p := { s2.p with i := 0 } }) 20 (.int .i64 0) rfl
  have A4 := A4.setCell hg 20 (.int .i64 0)
  go_wp2_with (first | ((with_reducible refine wpList_alloc_wz rfl rfl ?_)) | (refine wpList_store_row rfl 34 _ _ rfl w1.heap.size (wc s2) rfl rfl _ _ (by exact Y1) (by kernel_rfl) (by kernel_rfl) (by kernel_rfl) ?_; rw [← hw3]; clear hw3 Y1) | (refine wpList_load_row rfl 34 _ rfl w1.heap.size rfl _ (wc s2) (0, 0) _ (by exact Z3) Tryz.underlying34 rfl (by kernel_rfl) ?_) | (refine wpList_store_row rfl 34 _ _ rfl gx (wc s2) rfl rfl _ _ (by exact X3) (by kernel_rfl) (by kernel_rfl) (by kernel_rfl) ?_; rw [← hw5]; clear hw5 X3))
  have ep := A2.p
  simp only at ep
  go_ret
  refine ⟨s2, rfl, ?_, ⟨rfl, A4.rk, A4.l0, A4.l1, A4.l2, A4.hl, A4.rd⟩⟩
  rw [← ep]
  exact H5
end Go.Proofs.YtgpdkagmacpghaaGreat.Me
