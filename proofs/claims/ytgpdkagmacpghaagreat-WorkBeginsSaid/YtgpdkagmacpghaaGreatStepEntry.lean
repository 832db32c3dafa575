/- entry.Step out of its line, for every result (made by genstepq.py). -/
import Derived.Test.YtgpdkagmacpghaaGreatStepFn
namespace Go.Proofs.YtgpdkagmacpghaaGreat.Me
open Go Go.RowKit Go.Proofs.YtgpdkagmacpghaaGreat.Gro Go.Proofs.YtgpdkagmacpghaaGreat.Own Go.Proofs.YtgpdkagmacpghaaGreat.Wd Go.Proofs.YtgpdkagmacpghaaGreat.Ap Go.Proofs.YtgpdkagmacpghaaGreat.Pl Go.Proofs.YtgpdkagmacpghaaGreat.Wo
set_option linter.unusedVariables false
set_option linter.unusedSimpArgs false
/-- What a line leaves that may hand the state new lists. -/
def LQ (B : Nat) (w0 : World) (g gl cap gx : Nat) (c : Cfg) (n : Nat) (r : Res) (x : St) (e : Ending) (w' : World) : Prop := ∃ s3 : Wk, e = .returned (.tuple #[.int .i64 r.way, .bool r.ok]) ∧ MX B w0 g gl cap gx c r.a r.L { s3 with p := r.p } w' ∧ Anew n w' { s3 with p := x.p } x
theorem LQ.of {B : Nat} {w0 : World} {g gl cap gx : Nat} {c : Cfg} {n : Nat} {r : Res} {s1 : Wk} {x : St} {e : Ending} {w' : World} (h : LP B w0 g gl cap gx c r s1 e w') (A : Anew n w0 s1 x) (h1 : g < n) (h2 : gl < n) (h3 : gx < n) : LQ B w0 g gl cap gx c n r x e w' := by
  have A3 := anew_tri A h.2.T h1 h2 h3
  exact ⟨s1, h.1, h.2, ⟨rfl, A3.rk, A3.l0, A3.l1, A3.l2, A3.hl, A3.rd⟩⟩
set_option maxRecDepth 10000 in
set_option maxHeartbeats 4000000 in
theorem entryStepZ0 {B : Nat} {w : World} {g gl cap : Nat} {c : Cfg} {a a' : Acc} {L L' : List Int} (M : MemAt B w g c a gl cap L) (s : Wk) (x : St) (hx : Few 1000 x) (h : Lies w s x) {p1 : Pl} {ok : Bool}
    (HL : RowKit.Hid (∀ gx s1 w1, MX B w1 g gl cap gx c a L s1 w1 → s1.p = x.p → Anew (w.heap.size + 2) w1 s1 x → gx < w.heap.size + 2 → w.heap.size + 2 ≤ w1.heap.size → Calls Tryz.prog 165 #[.pointer (some ⟨g, 0, none⟩), .pointer (some ⟨gx, 0, none⟩)] w1 (LQ B w1 g gl cap gx c (w.heap.size + 2) ⟨a', L', p1, (0 : Int), ok⟩ x))) :
    Calls Tryz.prog 140 #[.pointer (some ⟨g, 0, none⟩), wv s] w (GPost B g gl cap c ⟨a', L', p1, (0 : Int), ok⟩ x w) := by
  have T0 := Two.start w s
  have mlt := M.lt
  go_enter Tryz.func140, Tryz.ntmps140
  go_wp2_with (first | (refine wpList_alloc_wz rfl rfl ?_) | (refine wpList_load_row rfl 34 _ rfl w.heap.size rfl _ (wc s) (0, 0) _ (by exact T0.X) Tryz.underlying34 rfl (by kernel_rfl) ?_))
  refine (copyWork s x hx _ (h.keep T0.below)).mono ?_
  rintro e w1 ⟨s1, rfl, A1, hb1⟩
  have T1 := T0.keep hb1
  have b1 := T1.lt
  have T2 := T1.rowX s1
  have hsz : ((w.alloc (.cells (wc s) 34)).alloc (.cells (wc wz) 34)).heap.size = w.heap.size + 2 := by simp
  rw [hsz] at A1 hb1
  have A2 := A1.setRow (g := w.heap.size) (by omega) (wc s1)
  have M2 := M.keep T2.below
  have MM : MX B (w1.setRow w.heap.size (wc s1)) g gl cap w.heap.size c a L s1 (w1.setRow w.heap.size (wc s1)) := ⟨M2, T2.X, Tri.refl _ _ _ _, by omega, by omega⟩
  obtain ⟨w2, hw2⟩ : ∃ u, u = w1.setRow w.heap.size (wc s1) := ⟨_, rfl⟩
  rw [← hw2] at MM A2 T2
  have hs2 : w.heap.size + 2 ≤ w2.heap.size := by have h9 := hb1.size; rw [hsz] at h9; rw [hw2]; simpa using h9
  have hp := A1.p
  clear A1 M2 hb1 T0
  go_wp2_with (first | (refine wpList_store_row rfl 34 _ _ rfl w.heap.size (wc s1) rfl rfl _ _ (by exact T1.X) (by kernel_rfl) (by kernel_rfl) (by kernel_rfl) ?_; rw [← hw2]; clear hw2 T1))
  refine (HL.out _ s1 _ MM hp A2 (by omega) hs2).mono ?_
  rintro e w3 ⟨s3, rfl, H3, A3⟩
  have Z3 := H3.T.bk T2.Z (by omega) (by omega) (by omega)
  have HE := H3
  have ZE := Z3
  clear Z3 MM H3 A2
  go_wp2_with (first | (refine wpList_load_row rfl 34 _ rfl w.heap.size rfl _ (wc ({ s3 with p := p1 } : Wk)) (0, 0) _ (by exact HE.X) Tryz.underlying34 rfl (by kernel_rfl) ?_) | (refine wpList_store_row rfl 34 _ _ rfl (w.heap.size + 1) (wc ({ s3 with p := p1 } : Wk)) rfl rfl _ _ (by exact ZE) (by kernel_rfl) (by kernel_rfl) (by kernel_rfl) ?_))
  have ZF := ZE.setRow (wc ({ s3 with p := p1 } : Wk))
  refine bodyPost_ret (v := .tuple #[wv ({ s3 with p := p1 } : Wk), .int .i64 (0 : Int), .bool ok]) ?_ rfl ⟨_, rfl, anew_end A3 (by omega) (by omega) _, HE.M.apart (g' := w.heap.size + 1) (gl' := w.heap.size + 1) ((Touch.refl _ _ _).setRow _) (by omega) (by omega) (by omega) (by omega), touch_end T2.below HE.T (by omega) _⟩
  exact Rw.results_cell_slot2 (p := 4) (q := 5) (r := 6) (ty := 34) Tryz.results140 _ _ (w.heap.size + 1) 34 _ (0, 0) _ rfl ZF Tryz.underlying34 rfl (by kernel_rfl)
set_option maxRecDepth 10000 in
set_option maxHeartbeats 4000000 in
theorem entryStepZ1 {B : Nat} {w : World} {g gl cap : Nat} {c : Cfg} {a a' : Acc} {L L' : List Int} (M : MemAt B w g c a gl cap L) (s : Wk) (x : St) (hx : Few 1000 x) (h : Lies w s x) {p1 : Pl} {way : Int} (hway : way ≠ 0) {ok : Bool}
    (HL : RowKit.Hid (∀ gx s1 w1, MX B w1 g gl cap gx c a L s1 w1 → s1.p = x.p → Anew (w.heap.size + 2) w1 s1 x → gx < w.heap.size + 2 → w.heap.size + 2 ≤ w1.heap.size → Calls Tryz.prog 165 #[.pointer (some ⟨g, 0, none⟩), .pointer (some ⟨gx, 0, none⟩)] w1 (LQ B w1 g gl cap gx c (w.heap.size + 2) ⟨a', L', p1, way, ok⟩ x))) :
    Calls Tryz.prog 140 #[.pointer (some ⟨g, 0, none⟩), wv s] w (GPost B g gl cap c ⟨a', L', { p1 with ln := 0 }, way, ok⟩ x w) := by
  have T0 := Two.start w s
  have mlt := M.lt
  have hwb : (way != 0) = true := by simp [hway]
  clear hway
  go_enter Tryz.func140, Tryz.ntmps140
  go_wp2_with (first | (refine wpList_alloc_wz rfl rfl ?_) | (refine wpList_load_row rfl 34 _ rfl w.heap.size rfl _ (wc s) (0, 0) _ (by exact T0.X) Tryz.underlying34 rfl (by kernel_rfl) ?_))
  refine (copyWork s x hx _ (h.keep T0.below)).mono ?_
  rintro e w1 ⟨s1, rfl, A1, hb1⟩
  have T1 := T0.keep hb1
  have b1 := T1.lt
  have T2 := T1.rowX s1
  have hsz : ((w.alloc (.cells (wc s) 34)).alloc (.cells (wc wz) 34)).heap.size = w.heap.size + 2 := by simp
  rw [hsz] at A1 hb1
  have A2 := A1.setRow (g := w.heap.size) (by omega) (wc s1)
  have M2 := M.keep T2.below
  have MM : MX B (w1.setRow w.heap.size (wc s1)) g gl cap w.heap.size c a L s1 (w1.setRow w.heap.size (wc s1)) := ⟨M2, T2.X, Tri.refl _ _ _ _, by omega, by omega⟩
  obtain ⟨w2, hw2⟩ : ∃ u, u = w1.setRow w.heap.size (wc s1) := ⟨_, rfl⟩
  rw [← hw2] at MM A2 T2
  have hs2 : w.heap.size + 2 ≤ w2.heap.size := by have h9 := hb1.size; rw [hsz] at h9; rw [hw2]; simpa using h9
  have hp := A1.p
  clear A1 M2 hb1 T0
  go_wp2_with (first | (refine wpList_store_row rfl 34 _ _ rfl w.heap.size (wc s1) rfl rfl _ _ (by exact T1.X) (by kernel_rfl) (by kernel_rfl) (by kernel_rfl) ?_; rw [← hw2]; clear hw2 T1))
  refine (HL.out _ s1 _ MM hp A2 (by omega) hs2).mono ?_
  rintro e w3 ⟨s3, rfl, H3, A3⟩
  have Z3 := H3.T.bk T2.Z (by omega) (by omega) (by omega)
  have HE := H3.set (s' := { s3 with p := { p1 with ln := 0 } }) 0 (.int .i64 0) rfl
  have ZE := Z3.setCell_far (a := ⟨w.heap.size, 0, none⟩) (by simp) (.int .i64 0)
  have x3 := H3.X.cells
  have z3 := H3.X.frozen
  have f0 : ∀ s : Wk, (wc s)[0]? = some (.int .i64 s.p.ln) := fun _ => rfl
  have e0 : (w3.cell? ⟨w.heap.size, 0, none⟩).isSome = true := by rw [x3, f0]; rfl
  have A3 := A3.setCell (g := w.heap.size) (by omega) 0 (.int .i64 0)
  clear Z3 MM H3 A2
  go_wp2_with (first | (refine wpList_load_row rfl 34 _ rfl w.heap.size rfl _ (wc ({ s3 with p := { p1 with ln := 0 } } : Wk)) (0, 0) _ (by exact HE.X) Tryz.underlying34 rfl (by kernel_rfl) ?_) | (refine wpList_store_row rfl 34 _ _ rfl (w.heap.size + 1) (wc ({ s3 with p := { p1 with ln := 0 } } : Wk)) rfl rfl _ _ (by exact ZE) (by kernel_rfl) (by kernel_rfl) (by kernel_rfl) ?_))
  have ZF := ZE.setRow (wc ({ s3 with p := { p1 with ln := 0 } } : Wk))
  refine bodyPost_ret (v := .tuple #[wv ({ s3 with p := { p1 with ln := 0 } } : Wk), .int .i64 way, .bool ok]) ?_ rfl ⟨_, rfl, anew_end A3 (by omega) (by omega) _, HE.M.apart (g' := w.heap.size + 1) (gl' := w.heap.size + 1) ((Touch.refl _ _ _).setRow _) (by omega) (by omega) (by omega) (by omega), touch_end T2.below HE.T (by omega) _⟩
  exact Rw.results_cell_slot2 (p := 4) (q := 5) (r := 6) (ty := 34) Tryz.results140 _ _ (w.heap.size + 1) 34 _ (0, 0) _ rfl ZF Tryz.underlying34 rfl (by kernel_rfl)
/-- A step, for whatever its line leaves. -/
theorem entryStep {B : Nat} {w : World} {g gl cap : Nat} {c : Cfg} {a : Acc} {L : List Int} (M : MemAt B w g c a gl cap L) (s : Wk) (x : St) (hx : Few 1000 x) (h : Lies w s x) (r : Res)
    (HL : ∀ gx s1 w1, MX B w1 g gl cap gx c a L s1 w1 → s1.p = x.p → Anew (w.heap.size + 2) w1 s1 x → gx < w.heap.size + 2 → w.heap.size + 2 ≤ w1.heap.size → Calls Tryz.prog 165 #[.pointer (some ⟨g, 0, none⟩), .pointer (some ⟨gx, 0, none⟩)] w1 (LQ B w1 g gl cap gx c (w.heap.size + 2) r x)) :
    Calls Tryz.prog 140 #[.pointer (some ⟨g, 0, none⟩), wv s] w (GPost B g gl cap c r.fin x w) := by
  obtain ⟨a', L', p1, way, ok⟩ := r
  by_cases hw : way = 0
  · subst hw
    rw [Res.fin0 rfl]
    exact entryStepZ0 M s x hx h (Lib.hid HL)
  · rw [Res.fin1 hw]
    exact entryStepZ1 M s x hx h hw (Lib.hid HL)
end Go.Proofs.YtgpdkagmacpghaaGreat.Me
