/- Part WorkLnA. -/
import Derived.Test.YtaiodbcnbcdokaaGreatKEntryLine
import Derived.Test.YtaiodbcnbcdokaaGreatKWorkFol3
import Derived.Test.YtaiodbcnbcdokaaGreatKWorkFol4
import Derived.Test.YtaiodbcnbcdokaaGreatKWorkRd
set_option linter.unusedVariables false
set_option linter.unusedSimpArgs false
set_option linter.unusedSectionVars false
set_option maxRecDepth 100000
set_option maxHeartbeats 16000000
section
namespace Go.Proofs.YtaiodbcnbcdokaaGreat.Me
open Go Go.RowKit Go.ChangeMaps Gro Own Wd Ap Go.Proofs.YtaiodbcnbcdokaaGreat.Pl Wo Mr
def ripeR (c : Cfg) (wk : Int) (a : Acc) (L : List Int) (x : St) : Rs :=
 ⟨(bX c a L (atS x 1).p wk).fin.a, (bX c a L (atS x 1).p wk).fin.L, gZ x (bX c a L (atS x 1).p wk).fin.p.ep, 1, true⟩
theorem fRipen {P : Nat → Prop} {B : Nat} {w : World} {g gl cap : Nat} {c : Cfg} {a : Acc} {L : List Int} (M : aC B w g c a gl cap L) (hf : c.Wf) (hm : L.length ≤ 1000) (hL : WR L) (s : Wk) (x : St) (hx : Few 200 x) (hp : PR x.p) (hP : ∀ b, w.heap.size ≤ b → P b) (hG : ∀ b, P b → b ≠ g ∧ b ≠ gl) (A : aM P w s x) (wk : Int) (he : (bX c a L (atS x 1).p wk).fin.p.ep < 18446744073709551616) :
  Calls Tryz.prog 137 #[.pointer (some ⟨g, 0, none⟩), .int .i64 wk, wv s] w (GSP P B g gl cap c (ripeR c wk a L x) w) := by
 have mlt := M.lt
 have f9 : ∀ s : Wk, (wc s)[9]? = some (.int .u64 s.p.ep) := fun _ => rfl
 have T0 := Two.start w s
 have AQ := (A.mono (Q := fun b => P b ∧ b ≠ w.heap.size ∧ b ≠ w.heap.size + 1) (fun b hb q => ⟨q, by omega, by omega⟩)).keep T0.below
 obtain ⟨v0, hv0⟩ : ∃ u, u = (w.alloc (.cells (wc s) 46)).alloc (.cells (wc wz) 46) := ⟨_, rfl⟩
 rw [← hv0] at T0 AQ
 have x0 := T0.X.cells
 have z0 := T0.X.frozen
 have M0 := M.keep T0.below
 have lt0 := T0.lt
 have ll0 := T0.below.size
 have HAT := Lib.hid (fAt (P := fun b => P b ∧ b ≠ w.heap.size ∧ b ≠ w.heap.size + 1) (fun b hb => ⟨hP b aj, by omega, by omega⟩) AQ 1)
 have hxa : Few 1000 (atS x 1) := ⟨(hx.mono (by omega : 200 ≤ 1000)).rk, (hx.mono (by omega : 200 ≤ 1000)).l0, (hx.mono (by omega : 200 ≤ 1000)).l1, (hx.mono (by omega : 200 ≤ 1000)).l2, (hx.mono (by omega : 200 ≤ 1000)).hl, (hx.mono (by omega : 200 ≤ 1000)).rd⟩
 have hpa : PR (atS x 1).p := ⟨hp.ep, hp.h, hp.n, hp.v, hp.u, hp.g, hp.t⟩
 unfold ripeR
 obtain ⟨r, hr⟩ : ∃ r, r = (bX c a L (atS x 1).p wk).fin := ⟨_, rfl⟩
 rw [← hr] at he ⊢
 go_enter Tryz.func137, Tryz.ntmps137
 go_wp2_with (first | ((with_reducible refine au rfl rfl ?_); rw [← hv0]; clear hv0) | (refine wpList_load_row rfl 46 _ rfl (w.heap.size) rfl _ (wc s) (0, 0) _ bT Tryz.underlying46 rfl ah ?_))
 refine HAT.out.mono ?_
 rintro e w4 ⟨s4, rfl, A4, hb4⟩
 have sz3 := hb4.size
 have T4 := T0.keep hb4
 have M4 := M0.keep hb4
 have B4 := AQ.keep hb4
 have HEP := epochStepAny M4 hf hm hL s4 (atS x 1) hxa A4.lies hpa wk
 rw [← hr] at HEP
 have HEP := Lib.hid HEP
 clear hr HAT A4 AQ
 obtain ⟨ra, rL, rp, rw', rok⟩ := r
 simp only at *
 go_wp2_with fail
 refine HEP.out.mono ?_
 rintro e w5 ⟨s5, rfl, A5, M5, T5⟩
 have X5 := T5.bk T4.X aj aj
 have Z5 := T5.bk T4.Z aj aj
 have A2 : aM (fun b => P b ∧ b ≠ w.heap.size ∧ b ≠ w.heap.size + 1) w5 s x := ⟨B4.p, fF B4.rk T5 (fun b q => (hG b q.1).1) (fun b q => (hG b q.1).2), fF B4.l0 T5 (fun b q => (hG b q.1).1) (fun b q => (hG b q.1).2), fF B4.l1 T5 (fun b q => (hG b q.1).1) (fun b q => (hG b q.1).2), fF B4.l2 T5 (fun b q => (hG b q.1).1) (fun b q => (hG b q.1).2), fF B4.hl T5 (fun b q => (hG b q.1).1) (fun b q => (hG b q.1).2), fF B4.rd T5 (fun b q => (hG b q.1).1) (fun b q => (hG b q.1).2)⟩
 have bb := bH w5 s5
 have Y6 := dx w5 s5
 have Yz := Bk.new w5 (wc wz) 46
 have X6 := X5.keep bb
 have Z6 := Z5.keep bb
 have A6 := A2.keep bb
 have M6 := M5.keep bb
 have sz5 := T5.size
 have sz4 := T4.below.size
 have TT6 : Touch g gl w _ := ((Touch.of_below T4.below).trans T5).trans (Touch.of_below bb)
 have e5 := A5.p
 obtain ⟨w6, hw6⟩ : ∃ u, u = (w5.alloc (.cells (wc wz) 46)).setRow w5.heap.size (wc s5) := ⟨_, rfl⟩
 have sz6 : w6.heap.size = w5.heap.size + 1 := qa6g
 have sz7 : w.heap.size ≤ w6.heap.size := aj
 have sz8 : w.heap.size + 2 ≤ w6.heap.size := aj
 rw [← hw6] at X6 Z6 A6 M6 TT6 Y6
 have q9 : (wc s5)[9]? = some (.int .u64 rp.ep) := by rw [f9, e5]
 have y6 := Y6.cells
 have HRP := Lib.hid (bagRipe s x hx rp.ep he w6 A6.lies)
 clear e5 f9 A5 bb X5 Z5 A2 M5 M4 T4 B4 A6 HEP T5 x0 z0
 go_wp2_with (first | ((with_reducible refine au rfl rfl ?_)) | (refine wpList_store_row rfl 46 _ _ rfl (w5.heap.size) (wc s5) rfl rfl _ _ (by exact Yz) ah ah ah ?_; rw [← hw6]; clear hw6 Yz) | (refine wpList_load_row rfl 46 _ rfl (w.heap.size) rfl _ (wc s) (0, 0) _ (by exact X6) Tryz.underlying46 rfl ah ?_))
 refine HRP.out.mono ?_
 rintro e w7 ⟨s7, rfl, L7, hb7⟩
 have Z7 := Z6.keep hb7
 have M7 := M6.keep hb7
 have TT7 := TT6.trans (Touch.of_below hb7)
 clear y6 HRP
 go_wp2_with (first | (refine wpList_store_row rfl 46 _ _ rfl (w.heap.size + 1) (wc s7) rfl rfl _ _ (by exact Z7) ah ah ah ?_))
 have ZF := Z7.setRow (wc s7)
 refine bodyPost_ret (v := .tuple #[wv s7, .int .i64 1, .bool true]) ?_ rfl ⟨_, rfl, (aM.of (L7.setRow (g := w.heap.size + 1) aj (wc s7)) (fun b _ q => hP b (Nat.le_trans sz7 q))), M7.apart (g' := w.heap.size + 1) (gl' := w.heap.size + 1) ((Touch.refl _ _ _).setRow _) aj aj aj aj, jH TT7 aj _⟩
 exact Rw.results_cell_slot2 (p := 6) (q := 7) (r := 8) (ty := 46) Tryz.results137 _ _ (w.heap.size + 1) 46 _ (0, 0) _ rfl ZF Tryz.underlying46 rfl ah
end Go.Proofs.YtaiodbcnbcdokaaGreat.Me
end
section
namespace Go.Proofs.YtaiodbcnbcdokaaGreat.Me
open Go Go.RowKit Gro Own Wd Ap Go.Proofs.YtaiodbcnbcdokaaGreat.Pl Wo
def LGk (B : Nat) (w0 : World) (g gl cap gx : Nat) (c : Cfg) (n : Nat) (r : Rs) (e : Ending) (w' : World) : Prop := ∃ s3 : Wk, e = .returned (.tuple #[.int .i64 r.way, .bool r.ok]) ∧ MX B w0 g gl cap gx c r.a r.L s3 w' ∧ aQ n w' s3 r.x
theorem gvPark_ok (c : Cfg) (a : Acc) (L : List Int) (x : St) : (gvPark c a L x).ok = true := by
 unfold gvPark jv
 simp only
 split <;> rfl
theorem gvPush_ok (c : Cfg) (a : Acc) (L : List Int) (x : St) : (gvPush c a L x).ok = true := by
 unfold gvPush jv
 simp only
 split <;> rfl
theorem gvRoute_ok (c : Cfg) (a : Acc) (L : List Int) (x : St) : (gvRoute c a L x).ok = true := by
 unfold gvRoute jv
 simp only
 split
 ·rfl
 ·split <;> rfl
theorem giveLine {B n : Nat} {w0 w : World} {g gl cap gx : Nat} {c : Cfg} {a : Acc} {L : List Int} {s : Wk} (h : MX B w0 g gl cap gx c a L s w) (hm : L.length ≤ 1000) (hL : WR L) (hf : c.Wf) (x : St) (hx : Few 800 x) (A : aQ n w s x) (hp : PR x.p) (hn : n ≤ w.heap.size) (hg : gx < n) :
  Calls Tryz.prog 167 #[.pointer (some ⟨g, 0, none⟩), .pointer (some ⟨gx, 0, none⟩)] w (LGk B w0 g gl cap gx c n (dV c a L x)) := by
 have X0 := h.X
 have x0 := X0.cells
 have f0 : ∀ s : Wk, (wc s)[0]? = some (.int .i64 s.p.ln) := fun _ => rfl
 have ex := A.p
 have lx := h.X.lt
 obtain ⟨ln, hln⟩ : ∃ k, k = x.p.ln := ⟨_, rfl⟩
 have q0 : (wc s)[0]? = some (.int .i64 ln) := by rw [f0, ex, hln]
 unfold dV
 rw [← hln]
 clear f0 ex hln
 by_cases h39 : ln = 39
 ·rw [if_pos h39]
  have hl := h39
  subst hl
  have HG := Lib.hid (giveRoute h hm hL hf x hx A hp hn hg)
  have HOK := Lib.hid (gvRoute_ok c a L x)
  exact qa3z
 rw [if_neg h39]
 by_cases hp3 : ln = 30 ∨ ln = 31 ∨ ln = 32
 ·rw [if_pos hp3]
  rcases hp3 with hl | hl | hl
  ·exact qa12
  ·exact qa12
  ·exact qa12
 rw [if_neg hp3]
 by_cases hp1 : ln = 13 ∨ ln = 14 ∨ ln = 15
 ·rw [if_pos hp1]
  rcases hp1 with hl | hl | hl
  ·exact qa13
  ·exact qa13
  ·exact qa13
 rw [if_neg hp1]
 have t39 : (ln == 39) = false := bq
 have t30 : (ln == 30) = false := bq
 have t31 : (ln == 31) = false := bq
 have t32 : (ln == 32) = false := bq
 have t13 : (ln == 13) = false := bq
 have t14 : (ln == 14) = false := bq
 have t15 : (ln == 15) = false := bq
 clear h39 hp3 hp1
 go_enter Tryz.func167, Tryz.ntmps167
 go_wp2
 go_ret2
 exact ⟨s, rfl, h, A⟩
theorem giveStepAny {B : Nat} {w : World} {g gl cap : Nat} {c : Cfg} {a : Acc} {L : List Int} (M : aC B w g c a gl cap L) (hf : c.Wf) (hm : L.length ≤ 1000) (hL : WR L) (s : Wk) (x : St) (hx : Few 800 x) (h : aP w s x) (hp : PR x.p) :
  Calls Tryz.prog 144 #[.pointer (some ⟨g, 0, none⟩), wv s] w (GS B g gl cap c (dV c a L x) w) := by
 have T0 := Two.start w s
 have mlt := M.lt
 obtain ⟨R, hR⟩ : ∃ R, R = dV c a L x := ⟨_, rfl⟩
 rw [← hR]
 have HR := Lib.hid hR
 clear hR
 go_enter Tryz.func144, Tryz.ntmps144
 go_wp2_with (first | ((with_reducible refine au rfl rfl ?_)) | (refine wpList_load_row rfl 46 _ rfl (w.heap.size) rfl _ (wc s) (0, 0) _ bT Tryz.underlying46 rfl ah ?_))
 refine (aW s x (hx.mono aj) _ (h.keep T0.below)).mono ?_
 rintro e w1 ⟨s1, rfl, A1, hb1⟩
 have T1 := T0.keep hb1
 have b1 := T1.lt
 have T2 := T1.bO s1
 have hsz : ((w.alloc (.cells (wc s) 46)).alloc (.cells (wc wz) 46)).heap.size = w.heap.size + 2 := aF
 rw [hsz] at A1 hb1
 have A2 := A1.dL.setRow (g := w.heap.size) aj (wc s1)
 have M2 := M.keep T2.below
 have MM : MX B (w1.setRow w.heap.size (wc s1)) g gl cap w.heap.size c a L s1 (w1.setRow w.heap.size (wc s1)) := ⟨M2, T2.X, Tri.refl _ _ _ _, by omega, by omega⟩
 obtain ⟨w2, hw2⟩ : ∃ u, u = w1.setRow w.heap.size (wc s1) := ⟨_, rfl⟩
 rw [← hw2] at MM A2 T2
 have hs2 : w.heap.size + 2 ≤ w2.heap.size := qa57
 have HL := Lib.hid (giveLine MM hm hL hf x hx A2 hp hs2 aj)
 rw [← HR.out] at HL
 clear A1 M2 hb1 T0 A2
 go_wp2_with (first | (refine wpList_store_row rfl 46 _ _ rfl (w.heap.size) (wc s1) rfl rfl _ _ dG ah ah ah ?_; rw [← hw2]; clear hw2 T1))
 refine HL.out.mono ?_
 rintro e w3 ⟨s3, rfl, H3, A3⟩
 have Z3 := H3.T.bk T2.Z aj aj aj
 have HE := H3
 have ZE := Z3
 obtain ⟨ra, rL, rx, rw', rok⟩ := R
 simp only at *
 clear Z3 MM H3
 go_wp2_with (first | (refine wpList_load_row rfl 46 _ rfl (w.heap.size) rfl _ (wc s3) (0, 0) _ qa58 Tryz.underlying46 rfl ah ?_) | (refine wpList_store_row rfl 46 _ _ rfl (w.heap.size + 1) (wc s3) rfl rfl _ _ qa59 ah ah ah ?_))
 have ZF := ZE.setRow (wc s3)
 refine bodyPost_ret (v := .tuple #[wv s3, .int .i64 rw', .bool rok]) ?_ rfl ⟨_, rfl, liesF_end A3 aj aj _, HE.M.apart (g' := w.heap.size + 1) (gl' := w.heap.size + 1) ((Touch.refl _ _ _).setRow _) aj aj aj aj, dQ T2.below HE.T aj _⟩
 exact Rw.results_cell_slot2 (p := 4) (q := 5) (r := 6) (ty := 46) Tryz.results144 _ _ (w.heap.size + 1) 46 _ (0, 0) _ rfl ZF Tryz.underlying46 rfl ah
end Go.Proofs.YtaiodbcnbcdokaaGreat.Me
end
section
namespace Go.Proofs.YtaiodbcnbcdokaaGreat.Me
open Go Go.RowKit Go.ChangeMaps Gro Own Wd Ap Go.Proofs.YtaiodbcnbcdokaaGreat.Pl Wo Mr
def fol (r : Rs) (got non : St → St) : Rs := ⟨r.a, r.L, if r.way = 1 then got r.x else if r.way = 2 then non r.x else r.x, 0, true⟩
def ay (c : Cfg) (wk : Int) (a : Acc) (L : List Int) (x : St) : Rs :=
 if x.p.ln = 1 ∨ x.p.ln = 2 ∨ x.p.ln = 3 then fol (bE (bX c a L x.p wk).fin x) iO id
 else if x.p.ln = 90 then fol (bE (bX c a L x.p wk).fin x) outsideS id
 else if x.p.ln = 70 ∨ x.p.ln = 71 ∨ x.p.ln = 72 then fol (bE (bX c a L x.p wk).fin x) (fun y => atS y 73) (fun y => atS y 73)
 else if x.p.ln = 73 then fol (ripeR c wk a L x) bG id
 else if x.p.ln = 36 ∨ x.p.ln = 37 then fol (bE (fq c a L x.p).fin x) (fun y => endS y 0) (fun y => endS y 9)
 else if x.p.ln = 20 ∨ x.p.ln = 21 ∨ x.p.ln = 22 ∨ x.p.ln = 40 ∨ x.p.ln = 41 then fol (bE (aU c a L x.p).fin x) bG (bS 5)
 else if x.p.ln = 23 ∨ x.p.ln = 24 ∨ x.p.ln = 25 then fol (bE (aU c a L x.p).fin x) bG id
 else if x.p.ln = 42 then fol (bE (aU c a L x.p).fin x) (roomS c 43) (bS 7)
 else if x.p.ln = 43 then fol (bE (aU c a L x.p).fin x) (freedS c) id
 else if x.p.ln = 44 then fol (bE (aU c a L x.p).fin x) (roomS c 45) (bS 7)
 else if x.p.ln = 45 then fol (bE (aU c a L x.p).fin x) (writtenS c) id
 else if x.p.ln = 46 then fol (bE (aU c a L x.p).fin x) tkS (bS 7)
 else if x.p.ln = 60 then fol (bE (aU c a L x.p).fin x) (dK 61) (bS 7)
 else if x.p.ln = 50 then fol (fillR c a L x) filledS id
 else if x.p.ln = 61 then fol (jE c a L x x.p.c) borrowS id
 else if x.p.ln = 62 then fol (jE c a L x x.p.br) (fun y => atS y 0) id
 else if x.p.gv = true then fol (dV c a L x) bW id
 else fol (eB (dD c a L x)) (dK 50) (bS 5)
abbrev eu : Nat → World → Value → Prop := fun _ _ _ => True
def npB (nf : Nat) (v : Int) (t : TypeId) : Nat → World → Value → Prop := fun B w n => ∃ nc, n = .func (.func nf) #[] nc ∧ dw (.int .i64 v) t B w nc
theorem bR {nf : Nat} {v : Int} {t : TypeId} {B : Nat} {w u : World} {n : Value} (h : npB nf v t B w n) (hb : Below w.heap.size w u) : npB nf v t B u n := by
 obtain ⟨nc, h1, h2⟩ := h
 exact ⟨nc, h1, (aK _ _).keep h2 hb⟩
theorem bJ {nf : Nat} {v : Int} {t : TypeId} {B : Nat} {w u : World} {n : Value} {g gl : Nat} (h : npB nf v t B w n) (T : Touch g gl w u) (h1 : g < B) (h2 : gl < B) : npB nf v t B u n := by
 obtain ⟨nc, q1, q2⟩ := h
 exact ⟨nc, q1, (aK _ _).touch q2 T h1 h2⟩
theorem fin_way (r : Res) : r.fin.way = r.way := by unfold Res.fin; split <;> rfl
theorem way_push {c : Cfg} {a : Acc} {L : List Int} {x : St} (h : x.p.ln = 23 ∨ x.p.ln = 24 ∨ x.p.ln = 25) : ¬ (bE (aU c a L x.p).fin x).way = 2 := by
 show ¬ (aU c a L x.p).fin.way = 2
 rw [fin_way]
 have e : aU c a L x.p = iK c a L x.p := by
  unfold aU
  rw [if_neg aj, if_pos h]
 rw [e]
 unfold iK
 split
 ·show ¬ (1 : Int) = 2; decide
 ·show ¬ (aT c a L x.p).fin.way = 2
  rw [fin_way]
  unfold aT
  have h20 : decide (20 ≤ x.p.ln) = true := decide_eq_true aj
  rw [h20]
  unfold skGo
  simp only [d9, if_true]
  rcases h with h | h | h
  ·rw [if_neg aj, if_neg aj, if_neg aj, if_pos aj]; show ¬ (0 : Int) = 2; decide
  ·rw [if_neg aj, if_neg aj, if_neg aj, if_neg aj, if_pos aj]; show ¬ (0 : Int) = 2; decide
  ·rw [if_neg aj, if_neg aj, if_neg aj, if_neg aj, if_neg aj, if_pos aj]
   show ¬ (if csB _ _ _ = true then (1 : Int) else 0) = 2
   split <;> decide
theorem way_en {c : Cfg} {a : Acc} {L : List Int} {x : St} (h : x.p.ln = 43 ∨ x.p.ln = 45) : ¬ (bE (aU c a L x.p).fin x).way = 2 := by
 show ¬ (aU c a L x.p).fin.way = 2
 rw [fin_way]
 unfold aU
 rcases h with h | h
 ·rw [if_neg aj, if_neg aj, if_neg aj, if_neg aj, if_neg aj, if_pos h]
  unfold en43
  split
  ·show ¬ (1 : Int) = 2; decide
  ·exact qa2z
 ·rw [if_neg aj, if_neg aj, if_neg aj, if_neg aj, if_neg aj, if_neg aj, if_pos h]
  unfold en45
  split
  ·show ¬ (1 : Int) = 2; decide
  ·exact qa2z
theorem way_again {a : Acc} {L : List Int} {x : St} : ¬ (jv a L x).way = 2 := by show ¬ gvW x = 2; unfold gvW; split <;> decide
theorem way_give {c : Cfg} {a : Acc} {L : List Int} {x : St} : ¬ (dV c a L x).way = 2 := by
 unfold dV
 split
 ·unfold gvRoute
  simp only
  split
  ·exact qa2z
  ·split
   ·exact way_again
   ·exact qa2z
 split
 ·unfold gvPark
  simp only
  split
  ·exact qa2z
  ·exact way_again
 split
 ·unfold gvPush
  simp only
  split
  ·exact qa2z
  ·exact way_again
 ·exact qa2z
theorem aV {B : Nat} {w : World} {g gl cap : Nat} {c : Cfg} {a : Acc} {L : List Int} (M : aC B w g c a gl cap L) (wk : Int) (s : Wk) (x : St) (hx : Few 800 x) (h : aP w s x) {gv : Bool} (hgv : x.p.gv = gv) {ln : Int} (hln : x.p.ln = ln) {sf gf : Nat} {SQ GQ : Nat → World → Array Value → Prop} {NP : Nat → World → Value → Prop} (cS : Cap SQ) (cG : Cap GQ) (cN : ∀ {B : Nat} {w u : World} {n : Value}, NP B w n → Below w.heap.size w u → NP B u n) (cT : ∀ {B : Nat} {w u : World} {n : Value} {g gl : Nat}, NP B w n → Touch g gl w u → g < B → gl < B → NP B u n) (HR : RG gv ln sf SQ gf GQ NP) (hsf : ∀ args w, (callFunc sf args).run Tryz.prog w = .ok (.enter sf args) w)
  (r : Rs) (HS : RowKit.Hid (∀ (P : Nat → Prop) B1 w1 s1 sc, (∀ b, w1.heap.size ≤ b → P b) → (∀ b, P b → b ≠ g ∧ b ≠ gl) → aC B w1 g c a gl cap L → aM P w1 s1 x → s1.rd.cap = s1.rd.len → SQ B1 w1 sc → Calls Tryz.prog sf (#[.pointer (some ⟨g, 0, none⟩), .int .i64 wk, wv s1] ++ sc) w1 (GSP P B g gl cap c r w1)))
  (got non : St → St) (hgf : ∀ args w, (callFunc gf args).run Tryz.prog w = .ok (.enter gf args) w) (HG : r.way = 1 → RowKit.Hid (∀ P B1 w1 s1 gc, (∀ b, w1.heap.size ≤ b → P b) → aM P w1 s1 r.x → GQ B1 w1 gc → Calls Tryz.prog gf (#[cv c, wv s1] ++ gc) w1 (FW P w1 (got r.x))))
  (HN : r.way = 2 → ∃ (nf : Nat) (NQ : Nat → World → Array Value → Prop), (∀ args w, (callFunc nf args).run Tryz.prog w = .ok (.enter nf args) w) ∧ Cap NQ ∧ (∀ {B w n}, NP B w n → ∃ nc, n = .func (.func nf) #[] nc ∧ NQ B w nc) ∧ RowKit.Hid (∀ P B1 w1 s1 nc, (∀ b, w1.heap.size ≤ b → P b) → aM P w1 s1 r.x → NQ B1 w1 nc → Calls Tryz.prog nf (#[cv c, wv s1] ++ nc) w1 (FW P w1 (non r.x)))) :
  Calls Tryz.prog 55 #[.pointer (some ⟨g, 0, none⟩), .int .i64 wk, wv s] w (WS B g gl cap c (fol r got non).a (fol r got non).L (fol r got non).x true w) := by
 unfold fol
 by_cases h1 : r.way = 1
 ·simp only [if_pos h1]
  exact workStep1 (NP := NP) M wk s x hx h hgv hln cS cG cN cT HR hsf HS h1 hgf (HG h1)
 ·by_cases h2 : r.way = 2
  ·simp only [if_neg h1, if_pos h2]
   obtain ⟨nf, NQ, q1, q2, q3, q4⟩ := HN h2
   exact workStep2 (NP := NP) M wk s x hx h hgv hln cS cG cN cT HR hsf HS h2 q1 q2 q3 q4
  ·simp only [if_neg h1, if_neg h2]
   exact workStep0 (NP := NP) M wk s x hx h hgv hln cS cG cN cT HR hsf HS ⟨h1, h2⟩
theorem gH {n : Nat} {x : St} (h : Few n x) (p : Pl) : Few n { x with p := p } := ⟨h.rk, h.l0, h.l1, h.l2, h.hl, h.rd⟩
theorem few_tkS {n : Nat} {x : St} (h : Few n x) : Few n (tkS x) := by
 unfold tkS
 split
 ·exact gH h _
 ·exact ⟨by have := h.rk; show x.rk.dropLast.length ≤ n; rw [List.length_dropLast]; omega, h.l0, h.l1, h.l2, h.hl, h.rd⟩
theorem few_hold {x : St} (h : Few 200 x) (M : List Int) (hM : M.length ≤ 100) : Few 400 (holdS x M) := ⟨by have := h.rk; show x.rk.length ≤ 400; omega, by have := h.l0; show x.l0.length ≤ 400; omega, by have := h.l1; show x.l1.length ≤ 400; omega, by have := h.l2; show x.l2.length ≤ 400; omega, by have := h.hl; show (x.hl ++ M).length ≤ 400; rw [List.length_append]; omega, by have := h.rd; show x.rd.length ≤ 400; omega⟩
theorem few_take {c : Cfg} {a : Acc} {L : List Int} {x : St} (h : Few 200 x) (hb : c.bl ≤ 100) : Few 400 (eB (dD c a L x)).x := by
 have e : ∀ r : Rs, Few 400 r.x → Few 400 (eB r).x := fun r hr => by
  unfold eB
  split
  ·exact hr
  ·exact gH hr _
 refine e _ ?_
 have h4 : Few 400 x := h.mono aj
 unfold dD
 split
 ·exact gH h4 _
 split
 ·unfold tkPark
  simp only
  split
  ·exact few_tkS (gH h4 _)
  ·exact gH h4 _
 split
 ·unfold tkClaim
  simp only
  split
  ·exact few_hold (gH h _) _ (by rw [List.length_tail, bsOf_len]; omega)
  ·exact gH h4 _
 split
 ·unfold iT
  simp only
  split
  ·exact gH h4 _
  ·exact gH h4 _
 split
 ·unfold iR
  split
  ·exact h4
  ·exact few_tkS h4
 ·exact h4
theorem if_len {b : Bool} {l : List Int} {n : Nat} (h : l.length ≤ n) : (if b = true then l else []).length ≤ n := by cases b <;> simp <;> exact h
theorem if_len0 {b : Bool} {l : List Int} {n : Nat} (h : l.length ≤ n) : (if b = true then [] else l).length ≤ n := by cases b <;> simp <;> exact h
theorem few_ripe {x : St} (h : Few 200 x) (e : Int) : Few 900 (gZ x e) := by
 have h1 := h.rk; have h2 := h.l0; have h3 := h.l1; have h4 := h.l2; have h5 := h.hl; have h6 := h.rd
 have q0 := if_len (b := bL x.p.t0 e) h2
 have q1 := if_len (b := bL x.p.t1 e) h3
 have q2 := if_len (b := bL x.p.t2 e) h4
 have z0 := if_len0 (b := bL x.p.t0 e) h2
 have z1 := if_len0 (b := bL x.p.t1 e) h3
 have z2 := if_len0 (b := bL x.p.t2 e) h4
 refine ⟨?_, ?_, ?_, ?_, ?_, ?_⟩
 ·show x.rk.length ≤ 900; omega
 ·show (if bL x.p.t0 e = true then [] else x.l0).length ≤ 900; omega
 ·show (if bL x.p.t1 e = true then [] else x.l1).length ≤ 900; omega
 ·show (if bL x.p.t2 e = true then [] else x.l2).length ≤ 900; omega
 ·show (x.hl ++ (if bL x.p.t0 e = true then x.l0 else []) ++ (if bL x.p.t1 e = true then x.l1 else []) ++ (if bL x.p.t2 e = true then x.l2 else [])).length ≤ 900
  rw [List.length_append, List.length_append, List.length_append]
  omega
 ·show x.rd.length ≤ 900; omega
theorem few_room {m : Int} {x : St} (h : Few 200 x) : Few 800 (roomB m x).1 := by
 unfold roomB
 split
 ·exact (few_prep0 h (m := 400) aj).mono aj
 split
 ·exact (few_prep1 h (m := 400) aj).mono aj
 ·exact (few_prep2 h (m := 400) aj).mono aj
theorem few_retire {c : Cfg} {x : St} (h : Few 200 x) : Few 900 (fT c x) := by
 have h0 := few_prep0 h (m := 400) aj
 have h1 := few_prep1 h (m := 400) aj
 have h2 := few_prep2 h (m := 400) aj
 unfold fT
 refine gH ?_ _
 unfold putB
 split
 ·split
  ·refine ⟨(h0.mono (by omega : 400 ≤ 900)).rk, ?_, (h0.mono (by omega : 400 ≤ 900)).l1, (h0.mono (by omega : 400 ≤ 900)).l2, (h0.mono (by omega : 400 ≤ 900)).hl, (h0.mono (by omega : 400 ≤ 900)).rd⟩
   have := h0.l0
   show ((eY x).l0 ++ [_]).length ≤ 900
   rw [List.length_append, List.length_singleton]
   omega
  ·exact h0.mono aj
 split
 ·split
  ·refine ⟨(h1.mono (by omega : 400 ≤ 900)).rk, (h1.mono (by omega : 400 ≤ 900)).l0, ?_, (h1.mono (by omega : 400 ≤ 900)).l2, (h1.mono (by omega : 400 ≤ 900)).hl, (h1.mono (by omega : 400 ≤ 900)).rd⟩
   have := h1.l1
   show ((eX x).l1 ++ [_]).length ≤ 900
   rw [List.length_append, List.length_singleton]
   omega
  ·exact h1.mono aj
 ·split
  ·refine ⟨(h2.mono (by omega : 400 ≤ 900)).rk, (h2.mono (by omega : 400 ≤ 900)).l0, (h2.mono (by omega : 400 ≤ 900)).l1, ?_, (h2.mono (by omega : 400 ≤ 900)).hl, (h2.mono (by omega : 400 ≤ 900)).rd⟩
   have := h2.l2
   show ((eU x).l2 ++ [_]).length ≤ 900
   rw [List.length_append, List.length_singleton]
   omega
  ·exact h2.mono aj
end Go.Proofs.YtaiodbcnbcdokaaGreat.Me
end
