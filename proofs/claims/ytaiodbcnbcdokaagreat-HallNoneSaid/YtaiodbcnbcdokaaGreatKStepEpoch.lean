/- Part StepEpoch. -/
import Derived.Test.YtaiodbcnbcdokaaGreatKStepFn
set_option linter.unusedVariables false
set_option linter.unusedSimpArgs false
set_option linter.unusedSectionVars false
set_option maxRecDepth 100000
set_option maxHeartbeats 16000000
namespace Go.Proofs.YtaiodbcnbcdokaaGreat.Me
open Go Go.RowKit Gro Own Wd Ap Go.Proofs.YtaiodbcnbcdokaaGreat.Pl Wo
theorem epochStepZ0 {B : Nat} {w : World} {g gl cap : Nat} {c : Cfg} {a a' : Acc} {L L' : List Int} (M : aC B w g c a gl cap L) (s : Wk) (x : St) (hx : Few 1000 x) (h : aP w s x) (wk : Int) {p1 : Pl} {ok : Bool}
  (HL : RowKit.Hid (∀ gx s1 w1, MX B w1 g gl cap gx c a L s1 w1 → s1.p = x.p → Calls Tryz.prog 159 #[.pointer (some ⟨g, 0, none⟩), .int .i64 wk, .pointer (some ⟨gx, 0, none⟩)] w1 (LP B w1 g gl cap gx c ⟨a', L', p1, (0 : Int), ok⟩ s1))) :
  Calls Tryz.prog 133 #[.pointer (some ⟨g, 0, none⟩), .int .i64 wk, wv s] w (iI B g gl cap c ⟨a', L', p1, (0 : Int), ok⟩ x w) := by
 have T0 := Two.start w s
 have mlt := M.lt
 go_enter Tryz.func133, Tryz.ntmps133
 go_wp2_with (first | (refine au rfl rfl ?_) | (refine wpList_load_row rfl 46 _ rfl w.heap.size rfl _ (wc s) (0, 0) _ bT Tryz.underlying46 rfl ah ?_))
 refine (aW s x hx _ (h.keep T0.below)).mono ?_
 rintro e w1 ⟨s1, rfl, A1, hb1⟩
 have T1 := T0.keep hb1
 have b1 := T1.lt
 have T2 := T1.bO s1
 have hsz : ((w.alloc (.cells (wc s) 46)).alloc (.cells (wc wz) 46)).heap.size = w.heap.size + 2 := aF
 rw [hsz] at A1 hb1
 have A2 := A1.setRow (g := w.heap.size) aj (wc s1)
 have M2 := M.keep T2.below
 have MM : MX B (w1.setRow w.heap.size (wc s1)) g gl cap w.heap.size c a L s1 (w1.setRow w.heap.size (wc s1)) := ⟨M2, T2.X, Tri.refl _ _ _ _, by omega, by omega⟩
 obtain ⟨w2, hw2⟩ : ∃ u, u = w1.setRow w.heap.size (wc s1) := ⟨_, rfl⟩
 rw [← hw2] at MM A2 T2
 have hp := A1.p
 clear A1 M2 hb1 T0
 go_wp2_with (first | (refine wpList_store_row rfl 46 _ _ rfl w.heap.size (wc s1) rfl rfl _ _ dG ah ah ah ?_; rw [← hw2]; clear hw2 T1))
 refine (HL.out _ s1 _ MM hp).mono ?_
 rintro e w3 ⟨rfl, H3⟩
 have Z3 := H3.T.bk T2.Z aj aj aj
 have A3 := jh A2 H3.T aj aj aj
 have HE := H3
 have ZE := Z3
 clear Z3 MM H3 A2
 go_wp2_with (first | (refine wpList_load_row rfl 46 _ rfl w.heap.size rfl _ (wc ({ s1 with p := p1 } : Wk)) (0, 0) _ qa58 Tryz.underlying46 rfl ah ?_) | (refine wpList_store_row rfl 46 _ _ rfl (w.heap.size + 1) (wc ({ s1 with p := p1 } : Wk)) rfl rfl _ _ qa59 ah ah ah ?_))
 have ZF := ZE.setRow (wc ({ s1 with p := p1 } : Wk))
 refine bodyPost_ret (v := .tuple #[wv ({ s1 with p := p1 } : Wk), .int .i64 (0 : Int), .bool ok]) ?_ rfl ⟨_, rfl, iH A3 aj aj _, HE.M.apart (g' := w.heap.size + 1) (gl' := w.heap.size + 1) ((Touch.refl _ _ _).setRow _) aj aj aj aj, dQ T2.below HE.T aj _⟩
 exact Rw.results_cell_slot2 (p := 6) (q := 7) (r := 8) (ty := 46) Tryz.results133 _ _ (w.heap.size + 1) 46 _ (0, 0) _ rfl ZF Tryz.underlying46 rfl ah
theorem epochStepZ1 {B : Nat} {w : World} {g gl cap : Nat} {c : Cfg} {a a' : Acc} {L L' : List Int} (M : aC B w g c a gl cap L) (s : Wk) (x : St) (hx : Few 1000 x) (h : aP w s x) (wk : Int) {p1 : Pl} {way : Int} (hway : way ≠ 0) {ok : Bool}
  (HL : RowKit.Hid (∀ gx s1 w1, MX B w1 g gl cap gx c a L s1 w1 → s1.p = x.p → Calls Tryz.prog 159 #[.pointer (some ⟨g, 0, none⟩), .int .i64 wk, .pointer (some ⟨gx, 0, none⟩)] w1 (LP B w1 g gl cap gx c ⟨a', L', p1, way, ok⟩ s1))) :
  Calls Tryz.prog 133 #[.pointer (some ⟨g, 0, none⟩), .int .i64 wk, wv s] w (iI B g gl cap c ⟨a', L', { p1 with ln := 0 }, way, ok⟩ x w) := by
 have T0 := Two.start w s
 have mlt := M.lt
 have hwb : (way != 0) = true := by simp [hway]
 clear hway
 go_enter Tryz.func133, Tryz.ntmps133
 go_wp2_with (first | (refine au rfl rfl ?_) | (refine wpList_load_row rfl 46 _ rfl w.heap.size rfl _ (wc s) (0, 0) _ bT Tryz.underlying46 rfl ah ?_))
 refine (aW s x hx _ (h.keep T0.below)).mono ?_
 rintro e w1 ⟨s1, rfl, A1, hb1⟩
 have T1 := T0.keep hb1
 have b1 := T1.lt
 have T2 := T1.bO s1
 have hsz : ((w.alloc (.cells (wc s) 46)).alloc (.cells (wc wz) 46)).heap.size = w.heap.size + 2 := aF
 rw [hsz] at A1 hb1
 have A2 := A1.setRow (g := w.heap.size) aj (wc s1)
 have M2 := M.keep T2.below
 have MM : MX B (w1.setRow w.heap.size (wc s1)) g gl cap w.heap.size c a L s1 (w1.setRow w.heap.size (wc s1)) := ⟨M2, T2.X, Tri.refl _ _ _ _, by omega, by omega⟩
 obtain ⟨w2, hw2⟩ : ∃ u, u = w1.setRow w.heap.size (wc s1) := ⟨_, rfl⟩
 rw [← hw2] at MM A2 T2
 have hp := A1.p
 clear A1 M2 hb1 T0
 go_wp2_with (first | (refine wpList_store_row rfl 46 _ _ rfl w.heap.size (wc s1) rfl rfl _ _ dG ah ah ah ?_; rw [← hw2]; clear hw2 T1))
 refine (HL.out _ s1 _ MM hp).mono ?_
 rintro e w3 ⟨rfl, H3⟩
 have Z3 := H3.T.bk T2.Z aj aj aj
 have A3 := jh A2 H3.T aj aj aj
 have HE := H3.set (s' := { s1 with p := { p1 with ln := 0 } }) 0 (.int .i64 0) rfl
 have ZE := Z3.aA (a := ⟨w.heap.size, 0, none⟩) aF (.int .i64 0)
 have x3 := H3.X.cells
 have z3 := H3.X.frozen
 have f0 : ∀ s : Wk, (wc s)[0]? = some (.int .i64 s.p.ln) := fun _ => rfl
 have e0 : (w3.cell? ⟨w.heap.size, 0, none⟩).isSome = true := qa5a
 have A3 := A3.setCell (g := w.heap.size) aj 0 (.int .i64 0)
 clear Z3 MM H3 A2
 go_wp2_with (first | (refine wpList_load_row rfl 46 _ rfl w.heap.size rfl _ (wc ({ s1 with p := { p1 with ln := 0 } } : Wk)) (0, 0) _ qa58 Tryz.underlying46 rfl ah ?_) | (refine wpList_store_row rfl 46 _ _ rfl (w.heap.size + 1) (wc ({ s1 with p := { p1 with ln := 0 } } : Wk)) rfl rfl _ _ qa59 ah ah ah ?_))
 have ZF := ZE.setRow (wc ({ s1 with p := { p1 with ln := 0 } } : Wk))
 refine bodyPost_ret (v := .tuple #[wv ({ s1 with p := { p1 with ln := 0 } } : Wk), .int .i64 way, .bool ok]) ?_ rfl ⟨_, rfl, iH A3 aj aj _, HE.M.apart (g' := w.heap.size + 1) (gl' := w.heap.size + 1) ((Touch.refl _ _ _).setRow _) aj aj aj aj, dQ T2.below HE.T aj _⟩
 exact Rw.results_cell_slot2 (p := 6) (q := 7) (r := 8) (ty := 46) Tryz.results133 _ _ (w.heap.size + 1) 46 _ (0, 0) _ rfl ZF Tryz.underlying46 rfl ah
theorem epochStep {B : Nat} {w : World} {g gl cap : Nat} {c : Cfg} {a : Acc} {L : List Int} (M : aC B w g c a gl cap L) (s : Wk) (x : St) (hx : Few 1000 x) (h : aP w s x) (wk : Int) (r : Res)
  (HL : ∀ gx s1 w1, MX B w1 g gl cap gx c a L s1 w1 → s1.p = x.p → Calls Tryz.prog 159 #[.pointer (some ⟨g, 0, none⟩), .int .i64 wk, .pointer (some ⟨gx, 0, none⟩)] w1 (LP B w1 g gl cap gx c r s1)) :
  Calls Tryz.prog 133 #[.pointer (some ⟨g, 0, none⟩), .int .i64 wk, wv s] w (iI B g gl cap c r.fin x w) := by
 obtain ⟨a', L', p1, way, ok⟩ := r
 by_cases hw : way = 0
 ·subst hw
  rw [Res.fin0 rfl]
  exact epochStepZ0 M s x hx h wk (Lib.hid HL)
 ·rw [Res.fin1 hw]
  exact epochStepZ1 M s x hx h wk hw (Lib.hid HL)
end Go.Proofs.YtaiodbcnbcdokaaGreat.Me
