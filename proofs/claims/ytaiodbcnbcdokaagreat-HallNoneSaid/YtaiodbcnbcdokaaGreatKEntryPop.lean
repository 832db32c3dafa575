/- Part EntryPop. -/
import Derived.Test.YtaiodbcnbcdokaaGreatKEntryFn
set_option linter.unusedVariables false
set_option linter.unusedSimpArgs false
set_option linter.unusedSectionVars false
set_option maxRecDepth 100000
set_option maxHeartbeats 16000000
section
namespace Go.Proofs.YtaiodbcnbcdokaaGreat.Me
open Go Go.RowKit Gro Own Wd Ap Go.Proofs.YtaiodbcnbcdokaaGreat.Pl Wo
def LQ (B : Nat) (w0 : World) (g gl cap gx : Nat) (c : Cfg) (n : Nat) (r : Res) (x : St) (e : Ending) (w' : World) : Prop := ∃ s3 : Wk, e = .returned (.tuple #[.int .i64 r.way, .bool r.ok]) ∧ MX B w0 g gl cap gx c r.a r.L { s3 with p := r.p } w' ∧ dI n w' { s3 with p := x.p } x
theorem LQ.of {B : Nat} {w0 : World} {g gl cap gx : Nat} {c : Cfg} {n : Nat} {r : Res} {s1 : Wk} {x : St} {e : Ending} {w' : World} (h : LP B w0 g gl cap gx c r s1 e w') (A : dI n w0 s1 x) (h1 : g < n) (h2 : gl < n) (h3 : gx < n) : LQ B w0 g gl cap gx c n r x e w' := by
 have A3 := jh A h.2.T h1 h2 h3
 exact ⟨s1, h.1, h.2, ⟨rfl, A3.rk, A3.l0, A3.l1, A3.l2, A3.hl, A3.rd⟩⟩
theorem entryStepZ0 {B : Nat} {w : World} {g gl cap : Nat} {c : Cfg} {a a' : Acc} {L L' : List Int} (M : aC B w g c a gl cap L) (s : Wk) (x : St) (hx : Few 1000 x) (h : aP w s x) {p1 : Pl} {ok : Bool}
  (HL : RowKit.Hid (∀ gx s1 w1, MX B w1 g gl cap gx c a L s1 w1 → s1.p = x.p → dI (w.heap.size + 2) w1 s1 x → gx < w.heap.size + 2 → w.heap.size + 2 ≤ w1.heap.size → Calls Tryz.prog 172 #[.pointer (some ⟨g, 0, none⟩), .pointer (some ⟨gx, 0, none⟩)] w1 (LQ B w1 g gl cap gx c (w.heap.size + 2) ⟨a', L', p1, (0 : Int), ok⟩ x))) :
  Calls Tryz.prog 148 #[.pointer (some ⟨g, 0, none⟩), wv s] w (iI B g gl cap c ⟨a', L', p1, (0 : Int), ok⟩ x w) := by
 have T0 := Two.start w s
 have mlt := M.lt
 go_enter Tryz.func148, Tryz.ntmps148
 go_wp2_with (first | (refine au rfl rfl ?_) | (refine wpList_load_row rfl 46 _ rfl w.heap.size rfl _ (wc s) (0, 0) _ bT Tryz.underlying46 rfl ah ?_))
 refine (aW s x hx _ (h.keep T0.below)).mono ?_
 rintro e w1 ⟨s1, rfl, A1, hb1⟩
 have T1 := T0.keep hb1
 have b1 := T1.lt
 have T2 := T1.bO s1
 have hsz : ((w.alloc (.cells (wc s) 46)).alloc (.cells (wc wz) 46)).heap.size = w.heap.size + 2 := aF
 rw [hsz] at A1 hb1
 have A2 := A1.setRow (g := w.heap.size) aj (wc s1)
 have M2 := M.keep T2.below
 have MM : MX B (w1.setRow w.heap.size (wc s1)) g gl cap w.heap.size c a L s1 (w1.setRow w.heap.size (wc s1)) := ⟨M2, T2.X, Tri.refl _ _ _ _, by omega, by omega⟩
 obtain ⟨w2, hw2⟩ : ∃ u, u = w1.setRow w.heap.size (wc s1) := ⟨_, rfl⟩
 rw [← hw2] at MM A2 T2
 have hs2 : w.heap.size + 2 ≤ w2.heap.size := qa57
 have hp := A1.p
 clear A1 M2 hb1 T0
 go_wp2_with (first | (refine wpList_store_row rfl 46 _ _ rfl w.heap.size (wc s1) rfl rfl _ _ dG ah ah ah ?_; rw [← hw2]; clear hw2 T1))
 refine (HL.out _ s1 _ MM hp A2 aj hs2).mono ?_
 rintro e w3 ⟨s3, rfl, H3, A3⟩
 have Z3 := H3.T.bk T2.Z aj aj aj
 have HE := H3
 have ZE := Z3
 clear Z3 MM H3 A2
 go_wp2_with (first | (refine wpList_load_row rfl 46 _ rfl w.heap.size rfl _ (wc ({ s3 with p := p1 } : Wk)) (0, 0) _ qa58 Tryz.underlying46 rfl ah ?_) | (refine wpList_store_row rfl 46 _ _ rfl (w.heap.size + 1) (wc ({ s3 with p := p1 } : Wk)) rfl rfl _ _ qa59 ah ah ah ?_))
 have ZF := ZE.setRow (wc ({ s3 with p := p1 } : Wk))
 refine bodyPost_ret (v := .tuple #[wv ({ s3 with p := p1 } : Wk), .int .i64 (0 : Int), .bool ok]) ?_ rfl ⟨_, rfl, iH A3 aj aj _, HE.M.apart (g' := w.heap.size + 1) (gl' := w.heap.size + 1) ((Touch.refl _ _ _).setRow _) aj aj aj aj, dQ T2.below HE.T aj _⟩
 exact Rw.results_cell_slot2 (p := 4) (q := 5) (r := 6) (ty := 46) Tryz.results148 _ _ (w.heap.size + 1) 46 _ (0, 0) _ rfl ZF Tryz.underlying46 rfl ah
theorem entryStepZ1 {B : Nat} {w : World} {g gl cap : Nat} {c : Cfg} {a a' : Acc} {L L' : List Int} (M : aC B w g c a gl cap L) (s : Wk) (x : St) (hx : Few 1000 x) (h : aP w s x) {p1 : Pl} {way : Int} (hway : way ≠ 0) {ok : Bool}
  (HL : RowKit.Hid (∀ gx s1 w1, MX B w1 g gl cap gx c a L s1 w1 → s1.p = x.p → dI (w.heap.size + 2) w1 s1 x → gx < w.heap.size + 2 → w.heap.size + 2 ≤ w1.heap.size → Calls Tryz.prog 172 #[.pointer (some ⟨g, 0, none⟩), .pointer (some ⟨gx, 0, none⟩)] w1 (LQ B w1 g gl cap gx c (w.heap.size + 2) ⟨a', L', p1, way, ok⟩ x))) :
  Calls Tryz.prog 148 #[.pointer (some ⟨g, 0, none⟩), wv s] w (iI B g gl cap c ⟨a', L', { p1 with ln := 0 }, way, ok⟩ x w) := by
 have T0 := Two.start w s
 have mlt := M.lt
 have hwb : (way != 0) = true := by simp [hway]
 clear hway
 go_enter Tryz.func148, Tryz.ntmps148
 go_wp2_with (first | (refine au rfl rfl ?_) | (refine wpList_load_row rfl 46 _ rfl w.heap.size rfl _ (wc s) (0, 0) _ bT Tryz.underlying46 rfl ah ?_))
 refine (aW s x hx _ (h.keep T0.below)).mono ?_
 rintro e w1 ⟨s1, rfl, A1, hb1⟩
 have T1 := T0.keep hb1
 have b1 := T1.lt
 have T2 := T1.bO s1
 have hsz : ((w.alloc (.cells (wc s) 46)).alloc (.cells (wc wz) 46)).heap.size = w.heap.size + 2 := aF
 rw [hsz] at A1 hb1
 have A2 := A1.setRow (g := w.heap.size) aj (wc s1)
 have M2 := M.keep T2.below
 have MM : MX B (w1.setRow w.heap.size (wc s1)) g gl cap w.heap.size c a L s1 (w1.setRow w.heap.size (wc s1)) := ⟨M2, T2.X, Tri.refl _ _ _ _, by omega, by omega⟩
 obtain ⟨w2, hw2⟩ : ∃ u, u = w1.setRow w.heap.size (wc s1) := ⟨_, rfl⟩
 rw [← hw2] at MM A2 T2
 have hs2 : w.heap.size + 2 ≤ w2.heap.size := qa57
 have hp := A1.p
 clear A1 M2 hb1 T0
 go_wp2_with (first | (refine wpList_store_row rfl 46 _ _ rfl w.heap.size (wc s1) rfl rfl _ _ dG ah ah ah ?_; rw [← hw2]; clear hw2 T1))
 refine (HL.out _ s1 _ MM hp A2 aj hs2).mono ?_
 rintro e w3 ⟨s3, rfl, H3, A3⟩
 have Z3 := H3.T.bk T2.Z aj aj aj
 have HE := H3.set (s' := { s3 with p := { p1 with ln := 0 } }) 0 (.int .i64 0) rfl
 have ZE := Z3.aA (a := ⟨w.heap.size, 0, none⟩) aF (.int .i64 0)
 have x3 := H3.X.cells
 have z3 := H3.X.frozen
 have f0 : ∀ s : Wk, (wc s)[0]? = some (.int .i64 s.p.ln) := fun _ => rfl
 have e0 : (w3.cell? ⟨w.heap.size, 0, none⟩).isSome = true := qa5a
 have A3 := A3.setCell (g := w.heap.size) aj 0 (.int .i64 0)
 clear Z3 MM H3 A2
 go_wp2_with (first | (refine wpList_load_row rfl 46 _ rfl w.heap.size rfl _ (wc ({ s3 with p := { p1 with ln := 0 } } : Wk)) (0, 0) _ qa58 Tryz.underlying46 rfl ah ?_) | (refine wpList_store_row rfl 46 _ _ rfl (w.heap.size + 1) (wc ({ s3 with p := { p1 with ln := 0 } } : Wk)) rfl rfl _ _ qa59 ah ah ah ?_))
 have ZF := ZE.setRow (wc ({ s3 with p := { p1 with ln := 0 } } : Wk))
 refine bodyPost_ret (v := .tuple #[wv ({ s3 with p := { p1 with ln := 0 } } : Wk), .int .i64 way, .bool ok]) ?_ rfl ⟨_, rfl, iH A3 aj aj _, HE.M.apart (g' := w.heap.size + 1) (gl' := w.heap.size + 1) ((Touch.refl _ _ _).setRow _) aj aj aj aj, dQ T2.below HE.T aj _⟩
 exact Rw.results_cell_slot2 (p := 4) (q := 5) (r := 6) (ty := 46) Tryz.results148 _ _ (w.heap.size + 1) 46 _ (0, 0) _ rfl ZF Tryz.underlying46 rfl ah
theorem entryStep {B : Nat} {w : World} {g gl cap : Nat} {c : Cfg} {a : Acc} {L : List Int} (M : aC B w g c a gl cap L) (s : Wk) (x : St) (hx : Few 1000 x) (h : aP w s x) (r : Res)
  (HL : ∀ gx s1 w1, MX B w1 g gl cap gx c a L s1 w1 → s1.p = x.p → dI (w.heap.size + 2) w1 s1 x → gx < w.heap.size + 2 → w.heap.size + 2 ≤ w1.heap.size → Calls Tryz.prog 172 #[.pointer (some ⟨g, 0, none⟩), .pointer (some ⟨gx, 0, none⟩)] w1 (LQ B w1 g gl cap gx c (w.heap.size + 2) r x)) :
  Calls Tryz.prog 148 #[.pointer (some ⟨g, 0, none⟩), wv s] w (iI B g gl cap c r.fin x w) := by
 obtain ⟨a', L', p1, way, ok⟩ := r
 by_cases hw : way = 0
 ·subst hw
  rw [Res.fin0 rfl]
  exact entryStepZ0 M s x hx h (Lib.hid HL)
 ·rw [Res.fin1 hw]
  exact entryStepZ1 M s x hx h hw (Lib.hid HL)
end Go.Proofs.YtaiodbcnbcdokaaGreat.Me
end
section
namespace Go.Proofs.YtaiodbcnbcdokaaGreat.Me
open Go Go.RowKit Gro Own Wd Ap Go.Proofs.YtaiodbcnbcdokaaGreat.Pl Wo
theorem Tri.of_row {g gl gx : Nat} {w : World} (cs : Array Value) : Tri g gl gx w (w.setRow gx cs) := by
 have t := (Touch.refl gx gx w).setRow cs
 exact ⟨t.os, t.tape, t.output, t.size, fun b hb _ _ h3 => t.block b hb h3 h3⟩
theorem MX.row {B : Nat} {w0 w : World} {g gl cap gx : Nat} {c : Cfg} {a : Acc} {L : List Int} {s : Wk} (h : MX B w0 g gl cap gx c a L s w) (s' : Wk) : MX B w0 g gl cap gx c a L s' (w.setRow gx (wc s')) :=
 ⟨h.M.apart (g' := gx) (gl' := gx) ((Touch.refl gx gx w).setRow _) h.n1.symm h.n1.symm h.n2.symm h.n2.symm, h.X.setRow _, h.T.trans (Tri.of_row _), h.n1, h.n2⟩
theorem enPopN {B n : Nat} {w0 w : World} {g gl cap gx : Nat} {c : Cfg} {a : Acc} {L : List Int} {s : Wk} (h : MX B w0 g gl cap gx c a L s w) (hm : L.length ≤ 1000) (hL : WR L) (hf : c.Wf) (x : St) (hx : Few 1000 x) (A : dI n w s x) (hp : PR x.p) (hn : n ≤ w.heap.size) (hg : gx < n) (r : Res) (hr : r = (aT c a L x.p).fin) (ho : r.way ≠ 1) :
  Calls Tryz.prog 205 #[.pointer (some ⟨g, 0, none⟩), .pointer (some ⟨gx, 0, none⟩)] w fun e w' => ∃ s3 : Wk, e = .returned (.int .i64 r.way) ∧ MX B w0 g gl cap gx c r.a r.L { s3 with p := r.p } w' ∧ dI n w' { s3 with p := x.p } x := by
 have HS := Lib.hid (fQ h.M hf hm hL s x hx A.lies hp)
 rw [← hr] at HS
 have hk : ∀ v : Int, (v = r.way) → (v == 1) = false := fun v e => by subst e; simp [ho]
 obtain ⟨ra, rL, rp, rw', rok⟩ := r
 simp only at *
 have t1 : (rw' == 1) = false := hk _ rfl
 have t2 : (rw' != 1) = true := qa5l
 clear hk hr
 have X0 := h.X
 go_enter Tryz.func205, Tryz.ntmps205
 go_wp2_with (first | (refine wpList_load_row rfl 46 _ rfl gx rfl _ (wc s) (0, 0) _ qa5m Tryz.underlying46 rfl ah ?_))
 refine HS.out.mono ?_
 rintro e w1 ⟨s2, rfl, A2, M2, T2⟩
 have H2 := h.mem M2 T2
 clear X0
 have b3 := bH w1 s2
 have Z3 := dx w1 s2
 have H3 := H2.keep b3
 have A3 := A2.keep b3
 have Y1 : Bk (w1.alloc (.cells (wc wz) 46)) w1.heap.size (wc wz) 46 := Bk.new _ _ _
 obtain ⟨w3, hw3⟩ : ∃ u, u = (w1.alloc (.cells (wc wz) 46)).setRow w1.heap.size (wc s2) := ⟨_, rfl⟩
 rw [← hw3] at b3 Z3 H3 A3
 have H4 := H3.row s2
 have X3 := H3.X
 have A4 := (A3.base hn).setRow hg (wc s2)
 go_wp2_with (first | ((with_reducible refine au rfl rfl ?_)) | (refine wpList_store_row rfl 46 _ _ rfl w1.heap.size (wc s2) rfl rfl _ _ qa5n ah ah ah ?_; rw [← hw3]; clear hw3 Y1) | (refine wpList_load_row rfl 46 _ rfl w1.heap.size rfl _ (wc s2) (0, 0) _ qa5o Tryz.underlying46 rfl ah ?_) | (refine wpList_store_row rfl 46 _ _ rfl gx (wc s2) rfl rfl _ _ qa5p ah ah ah ?_))
 have es : ({ s2 with p := rp } : Wk) = s2 := by have e := A2.p; simp only at e; subst e; rfl
 go_ret
 exact ⟨s2, rfl, by rw [es]; exact H4, ⟨rfl, A4.rk, A4.l0, A4.l1, A4.l2, A4.hl, A4.rd⟩⟩
theorem enPushN {B n : Nat} {w0 w : World} {g gl cap gx : Nat} {c : Cfg} {a : Acc} {L : List Int} {s : Wk} (h : MX B w0 g gl cap gx c a L s w) (hm : L.length ≤ 1000) (hL : WR L) (hf : c.Wf) (x : St) (hx : Few 1000 x) (A : dI n w s x) (hp : PR x.p) (hn : n ≤ w.heap.size) (hg : gx < n) (r : Res) (hr : r = (aT c a L x.p).fin) (ho : r.way ≠ 1) :
  Calls Tryz.prog 206 #[.pointer (some ⟨g, 0, none⟩), .pointer (some ⟨gx, 0, none⟩)] w fun e w' => ∃ s3 : Wk, e = .returned (.int .i64 r.way) ∧ MX B w0 g gl cap gx c r.a r.L { s3 with p := r.p } w' ∧ dI n w' { s3 with p := x.p } x := by
 have HS := Lib.hid (fQ h.M hf hm hL s x hx A.lies hp)
 rw [← hr] at HS
 have hk : ∀ v : Int, (v = r.way) → (v == 1) = false := fun v e => by subst e; simp [ho]
 obtain ⟨ra, rL, rp, rw', rok⟩ := r
 simp only at *
 have t1 : (rw' == 1) = false := hk _ rfl
 have t2 : (rw' != 1) = true := qa5l
 clear hk hr
 have X0 := h.X
 go_enter Tryz.func206, Tryz.ntmps206
 go_wp2_with (first | (refine wpList_load_row rfl 46 _ rfl gx rfl _ (wc s) (0, 0) _ qa5m Tryz.underlying46 rfl ah ?_))
 refine HS.out.mono ?_
 rintro e w1 ⟨s2, rfl, A2, M2, T2⟩
 have H2 := h.mem M2 T2
 clear X0
 have b3 := bH w1 s2
 have Z3 := dx w1 s2
 have H3 := H2.keep b3
 have A3 := A2.keep b3
 have Y1 : Bk (w1.alloc (.cells (wc wz) 46)) w1.heap.size (wc wz) 46 := Bk.new _ _ _
 obtain ⟨w3, hw3⟩ : ∃ u, u = (w1.alloc (.cells (wc wz) 46)).setRow w1.heap.size (wc s2) := ⟨_, rfl⟩
 rw [← hw3] at b3 Z3 H3 A3
 have H4 := H3.row s2
 have X3 := H3.X
 have A4 := (A3.base hn).setRow hg (wc s2)
 go_wp2_with (first | ((with_reducible refine au rfl rfl ?_)) | (refine wpList_store_row rfl 46 _ _ rfl w1.heap.size (wc s2) rfl rfl _ _ qa5n ah ah ah ?_; rw [← hw3]; clear hw3 Y1) | (refine wpList_load_row rfl 46 _ rfl w1.heap.size rfl _ (wc s2) (0, 0) _ qa5o Tryz.underlying46 rfl ah ?_) | (refine wpList_store_row rfl 46 _ _ rfl gx (wc s2) rfl rfl _ _ qa5p ah ah ah ?_))
 have es : ({ s2 with p := rp } : Wk) = s2 := by have e := A2.p; simp only at e; subst e; rfl
 go_ret
 exact ⟨s2, rfl, by rw [es]; exact H4, ⟨rfl, A4.rk, A4.l0, A4.l1, A4.l2, A4.hl, A4.rd⟩⟩
theorem enPopY {B n : Nat} {w0 w : World} {g gl cap gx : Nat} {c : Cfg} {a : Acc} {L : List Int} {s : Wk} (h : MX B w0 g gl cap gx c a L s w) (hm : L.length ≤ 1000) (hL : WR L) (hf : c.Wf) (x : St) (hx : Few 1000 x) (A : dI n w s x) (hp : PR x.p) (hn : n ≤ w.heap.size) (hg : gx < n) (r : Res) (hr : r = (aT c a L x.p).fin) (ho : r.way = 1) :
  Calls Tryz.prog 205 #[.pointer (some ⟨g, 0, none⟩), .pointer (some ⟨gx, 0, none⟩)] w fun e w' => ∃ s3 : Wk, e = .returned (.int .i64 0) ∧ MX B w0 g gl cap gx c r.a r.L { s3 with p := { r.p with i := wrap64 r.p.h, ln := 40 } } w' ∧ dI n w' { s3 with p := x.p } x := by
 have HS := Lib.hid (fQ h.M hf hm hL s x hx A.lies hp)
 rw [← hr] at HS
 have hk : ∀ v : Int, (v = r.way) → (v == 1) = true := fun v e => by subst e; simp [ho]
 obtain ⟨ra, rL, rp, rw', rok⟩ := r
 simp only at *
 have t1 : (rw' == 1) = true := hk _ rfl
 have t2 : (rw' != 1) = false := qa5l
 clear hk hr
 have f0 : ∀ s : Wk, (wc s)[0]? = some (.int .i64 s.p.ln) := fun _ => rfl
 have f20 : ∀ s : Wk, (wc s)[20]? = some (.int .i64 s.p.i) := fun _ => rfl
 have f23 : ∀ s : Wk, (wc s)[23]? = some (.int .u64 s.p.h) := fun _ => rfl
 have X0 := h.X
 go_enter Tryz.func205, Tryz.ntmps205
 go_wp2_with (first | (refine wpList_load_row rfl 46 _ rfl gx rfl _ (wc s) (0, 0) _ qa5m Tryz.underlying46 rfl ah ?_))
 refine HS.out.mono ?_
 rintro e w1 ⟨s2, rfl, A2, M2, T2⟩
 have H2 := h.mem M2 T2
 clear X0
 have b3 := bH w1 s2
 have Z3 := dx w1 s2
 have H3 := H2.keep b3
 have A3 := A2.keep b3
 have Y1 : Bk (w1.alloc (.cells (wc wz) 46)) w1.heap.size (wc wz) 46 := Bk.new _ _ _
 obtain ⟨w3, hw3⟩ : ∃ u, u = (w1.alloc (.cells (wc wz) 46)).setRow w1.heap.size (wc s2) := ⟨_, rfl⟩
 rw [← hw3] at b3 Z3 H3 A3
 have H4 := H3.row s2
 have X3 := H3.X
 have A4 := (A3.base hn).setRow hg (wc s2)
 obtain ⟨w5, hw5⟩ : ∃ u, u = w3.setRow gx (wc s2) := ⟨_, rfl⟩
 rw [← hw5] at H4 A4
 have x5 := H4.X.cells
 have z5 := H4.X.frozen
 have e5 : (w5.cell? ⟨gx, 20, none⟩).isSome = true := by rw [x5, f20]; rfl
 have H5 := H4.set (s' := { s2 with p := { s2.p with i := (wrap64 s2.p.h) } }) 20 (.int .i64 (wrap64 s2.p.h)) rfl
 have A4 := A4.setCell hg 20 (.int .i64 (wrap64 s2.p.h))
 have y5 : ((w5.setCell ⟨gx, 20, none⟩ (.int .i64 (wrap64 s2.p.h))).cell? ⟨gx, 0, none⟩).isSome = true := qa5f
 have H6 := H5.set (s' := { s2 with p := { s2.p with i := (wrap64 s2.p.h), ln := 40 } }) 0 (.int .i64 40) rfl
 have A4 := A4.setCell hg 0 (.int .i64 40)
 go_wp2_with (first | ((with_reducible refine au rfl rfl ?_)) | (refine wpList_store_row rfl 46 _ _ rfl w1.heap.size (wc s2) rfl rfl _ _ qa5n ah ah ah ?_; rw [← hw3]; clear hw3 Y1) | (refine wpList_load_row rfl 46 _ rfl w1.heap.size rfl _ (wc s2) (0, 0) _ qa5o Tryz.underlying46 rfl ah ?_) | (refine wpList_store_row rfl 46 _ _ rfl gx (wc s2) rfl rfl _ _ qa5p ah ah ah ?_; rw [← hw5]; clear hw5 X3))
 have ep := A2.p
 simp only at ep
 go_ret
 refine ⟨s2, rfl, ?_, ⟨rfl, A4.rk, A4.l0, A4.l1, A4.l2, A4.hl, A4.rd⟩⟩
 rw [← ep]
 exact H6
theorem enPushY {B n : Nat} {w0 w : World} {g gl cap gx : Nat} {c : Cfg} {a : Acc} {L : List Int} {s : Wk} (h : MX B w0 g gl cap gx c a L s w) (hm : L.length ≤ 1000) (hL : WR L) (hf : c.Wf) (x : St) (hx : Few 1000 x) (A : dI n w s x) (hp : PR x.p) (hn : n ≤ w.heap.size) (hg : gx < n) (r : Res) (hr : r = (aT c a L x.p).fin) (ho : r.way = 1) :
  Calls Tryz.prog 206 #[.pointer (some ⟨g, 0, none⟩), .pointer (some ⟨gx, 0, none⟩)] w fun e w' => ∃ s3 : Wk, e = .returned (.int .i64 1) ∧ MX B w0 g gl cap gx c r.a r.L { s3 with p := { r.p with i := 0 } } w' ∧ dI n w' { s3 with p := x.p } x := by
 have HS := Lib.hid (fQ h.M hf hm hL s x hx A.lies hp)
 rw [← hr] at HS
 have hk : ∀ v : Int, (v = r.way) → (v == 1) = true := fun v e => by subst e; simp [ho]
 obtain ⟨ra, rL, rp, rw', rok⟩ := r
 simp only at *
 have t1 : (rw' == 1) = true := hk _ rfl
 have t2 : (rw' != 1) = false := qa5l
 clear hk hr
 have f0 : ∀ s : Wk, (wc s)[0]? = some (.int .i64 s.p.ln) := fun _ => rfl
 have f20 : ∀ s : Wk, (wc s)[20]? = some (.int .i64 s.p.i) := fun _ => rfl
 have f23 : ∀ s : Wk, (wc s)[23]? = some (.int .u64 s.p.h) := fun _ => rfl
 have X0 := h.X
 go_enter Tryz.func206, Tryz.ntmps206
 go_wp2_with (first | (refine wpList_load_row rfl 46 _ rfl gx rfl _ (wc s) (0, 0) _ qa5m Tryz.underlying46 rfl ah ?_))
 refine HS.out.mono ?_
 rintro e w1 ⟨s2, rfl, A2, M2, T2⟩
 have H2 := h.mem M2 T2
 clear X0
 have b3 := bH w1 s2
 have Z3 := dx w1 s2
 have H3 := H2.keep b3
 have A3 := A2.keep b3
 have Y1 : Bk (w1.alloc (.cells (wc wz) 46)) w1.heap.size (wc wz) 46 := Bk.new _ _ _
 obtain ⟨w3, hw3⟩ : ∃ u, u = (w1.alloc (.cells (wc wz) 46)).setRow w1.heap.size (wc s2) := ⟨_, rfl⟩
 rw [← hw3] at b3 Z3 H3 A3
 have H4 := H3.row s2
 have X3 := H3.X
 have A4 := (A3.base hn).setRow hg (wc s2)
 obtain ⟨w5, hw5⟩ : ∃ u, u = w3.setRow gx (wc s2) := ⟨_, rfl⟩
 rw [← hw5] at H4 A4
 have x5 := H4.X.cells
 have z5 := H4.X.frozen
 have e5 : (w5.cell? ⟨gx, 20, none⟩).isSome = true := by rw [x5, f20]; rfl
 have H5 := H4.set (s' := { s2 with p := { s2.p with i := 0 } }) 20 (.int .i64 0) rfl
 have A4 := A4.setCell hg 20 (.int .i64 0)
 go_wp2_with (first | ((with_reducible refine au rfl rfl ?_)) | (refine wpList_store_row rfl 46 _ _ rfl w1.heap.size (wc s2) rfl rfl _ _ qa5n ah ah ah ?_; rw [← hw3]; clear hw3 Y1) | (refine wpList_load_row rfl 46 _ rfl w1.heap.size rfl _ (wc s2) (0, 0) _ qa5o Tryz.underlying46 rfl ah ?_) | (refine wpList_store_row rfl 46 _ _ rfl gx (wc s2) rfl rfl _ _ qa5p ah ah ah ?_; rw [← hw5]; clear hw5 X3))
 have ep := A2.p
 simp only at ep
 go_ret
 refine ⟨s2, rfl, ?_, ⟨rfl, A4.rk, A4.l0, A4.l1, A4.l2, A4.hl, A4.rd⟩⟩
 rw [← ep]
 exact H5
end Go.Proofs.YtaiodbcnbcdokaaGreat.Me
end
