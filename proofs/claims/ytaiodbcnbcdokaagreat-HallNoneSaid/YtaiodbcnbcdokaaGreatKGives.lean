/- Part Gives. -/
import Derived.Test.YtaiodbcnbcdokaaGreatKEntryPop
import Derived.Test.YtaiodbcnbcdokaaGreatKSlabs
set_option linter.unusedVariables false
set_option linter.unusedSimpArgs false
set_option linter.unusedSectionVars false
set_option maxRecDepth 100000
set_option maxHeartbeats 16000000
namespace Go.Proofs.YtaiodbcnbcdokaaGreat.Me
open Go Go.RowKit Gro Own Wd Ap Go.Proofs.YtaiodbcnbcdokaaGreat.Pl Wo
def gvS (x : St) : St := if x.hl = [] then { x with p := { x.p with ln := 0 } } else { jq x with p := { (jq x).p with k := wrap64 (nextB x + 1), ln := 39 } }
def gvW (x : St) : Int := if x.hl = [] then 1 else 0
theorem giveBegin_no (s : Wk) (x : St) (hx : Few 900 x) (w : World) (h : aP w s x) (hm : x.hl = []) :
  Calls Tryz.prog 188 #[wv s] w fun e w' => ∃ s', e = .returned (.tuple #[wv s', .int .i64 1]) ∧ aQ w.heap.size w' s' { x with p := { x.p with ln := 0 } } ∧ Below w.heap.size w w' := by
 have e17 : ∀ s : Wk, (wc s)[17]? = some (.slice s.hl.ad s.hl.len s.hl.cap) := fun _ => rfl
 have f0 : ∀ s : Wk, (wc s)[0]? = some (.int .i64 s.p.ln) := fun _ => rfl
 have f19 : ∀ s : Wk, (wc s)[19]? = some (.int .i64 s.p.k) := fun _ => rfl
 have T0 := Two.start w s
 have x0 := T0.X.cells
 have hl := bI h.hl
 have hz : (((s.hl.len : Nat) : Int) == 0) = true := by simp [hl, hm]
 clear hl
 go_enter Tryz.func188, Tryz.ntmps188
 go_wp2_with (first | ((with_reducible refine au rfl rfl ?_)) | (refine wpList_load_row rfl 46 _ rfl (w.heap.size) rfl _ (wc s) (0, 0) _ bT Tryz.underlying46 rfl ah ?_))
 refine (aW s x (hx.mono aj) _ (h.keep T0.below)).mono ?_
 rintro e w1 ⟨s1, rfl, A1, hb1⟩
 have T1 := T0.keep hb1
 have b1 := T1.lt
 have T2 := T1.bO s1
 have hsz : ((w.alloc (.cells (wc s) 46)).alloc (.cells (wc wz) 46)).heap.size = w.heap.size + 2 := aF
 rw [hsz] at A1 hb1
 have L2 := A1.dL.setRow (g := w.heap.size) aj (wc s1)
 obtain ⟨w2, hw2⟩ : ∃ u, u = w1.setRow w.heap.size (wc s1) := ⟨_, rfl⟩
 rw [← hw2] at L2 T2
 have x2 := T2.X.cells
 have z2 := T2.X.frozen
 have e2 : (w2.cell? ⟨w.heap.size, 0, none⟩).isSome = true := by rw [x2, f0]; rfl
 have T3 := T2.bZ 0 (.int .i64 0) ({ s1 with p := { s1.p with ln := 0 } } : Wk) rfl
 have L3 := L2.setCell (g := w.heap.size) aj 0 (.int .i64 0)
 have hp := A1.p
 have HP := Lib.hid hp
 clear A1 hb1 T0 x0 hp
 go_wp2_with (first | (refine wpList_store_row rfl 46 _ _ rfl (w.heap.size) (wc s1) rfl rfl _ _ dG ah ah ah ?_; rw [← hw2]; clear hw2 T1) | (refine wpList_load_row rfl 46 _ rfl (w.heap.size) rfl _ (wc ({ s1 with p := { s1.p with ln := 0 } } : Wk)) (0, 0) _ qa52 Tryz.underlying46 rfl ah ?_) | (refine wpList_store_row rfl 46 _ _ rfl (w.heap.size + 1) (wc ({ s1 with p := { s1.p with ln := 0 } } : Wk)) rfl rfl _ _ qa53 ah ah ah ?_))
 have T5 := T3.bN ({ s1 with p := { s1.p with ln := 0 } } : Wk)
 have L5 := L3.setRow (g := w.heap.size + 1) aj (wc ({ s1 with p := { s1.p with ln := 0 } } : Wk))
 refine bodyPost_ret (v := .tuple #[wv ({ s1 with p := { s1.p with ln := 0 } } : Wk), .int .i64 1]) ?_ rfl ⟨_, rfl, ?_, T5.below⟩
 ·exact qa14
 ·exact aQ.base ⟨by rw [← HP.out], L5.rk, L5.l0, L5.l1, L5.l2, L5.hl, L5.rd⟩ aj
theorem giveBegin_yes (s : Wk) (x : St) (hx : Few 900 x) (w : World) (h : aP w s x) (hm : x.hl ≠ []) :
  Calls Tryz.prog 188 #[wv s] w fun e w' => ∃ s', e = .returned (.tuple #[wv s', .int .i64 0]) ∧ aQ w.heap.size w' s' { jq x with p := { (jq x).p with k := wrap64 (nextB x + 1), ln := 39 } } ∧ Below w.heap.size w w' := by
 have e17 : ∀ s : Wk, (wc s)[17]? = some (.slice s.hl.ad s.hl.len s.hl.cap) := fun _ => rfl
 have f0 : ∀ s : Wk, (wc s)[0]? = some (.int .i64 s.p.ln) := fun _ => rfl
 have f19 : ∀ s : Wk, (wc s)[19]? = some (.int .i64 s.p.k) := fun _ => rfl
 have T0 := Two.start w s
 have x0 := T0.X.cells
 have hl := bI h.hl
 have hpos := List.length_pos_iff.2 hm
 have hz : (((s.hl.len : Nat) : Int) == 0) = false := by rw [hl]; simp; omega
 have HN := Lib.hid (rackNext s x hx _ (h.keep T0.below))
 obtain ⟨kk, hk⟩ : ∃ kk, kk = wrap64 (nextB x + 1) := ⟨_, rfl⟩
 have hk' : IntKind.i64.wrap (nextB x + 1) = kk := (IntWalk.i64_left _).trans hk.symm
 have HK := Lib.hid hk
 clear hl hpos hm hk
 go_enter Tryz.func188, Tryz.ntmps188
 go_wp2_with (first | ((with_reducible refine au rfl rfl ?_)) | (refine wpList_load_row rfl 46 _ rfl (w.heap.size) rfl _ (wc s) (0, 0) _ bT Tryz.underlying46 rfl ah ?_))
 refine HN.out.mono ?_
 rintro e w1 ⟨s1, rfl, L1, hb1⟩
 have T1 := T0.keep hb1
 have b1 := T1.lt
 have T2 := T1.bO s1
 have hsz : ((w.alloc (.cells (wc s) 46)).alloc (.cells (wc wz) 46)).heap.size = w.heap.size + 2 := aF
 rw [hsz] at L1 hb1
 have L2 := L1.setRow (g := w.heap.size) aj (wc s1)
 obtain ⟨w2, hw2⟩ : ∃ u, u = w1.setRow w.heap.size (wc s1) := ⟨_, rfl⟩
 rw [← hw2] at L2 T2
 have x2 := T2.X.cells
 have z2 := T2.X.frozen
 have e2 : (w2.cell? ⟨w.heap.size, 19, none⟩).isSome = true := by rw [x2, f19]; rfl
 have T3 := T2.bZ 19 (.int .i64 kk) ({ s1 with p := { s1.p with k := kk } } : Wk) rfl
 have L3 := L2.setCell (g := w.heap.size) aj 19 (.int .i64 kk)
 have e3 : ((w2.setCell ⟨w.heap.size, 19, none⟩ (.int .i64 kk)).cell? ⟨w.heap.size, 0, none⟩).isSome = true := by rw [T3.X.cells, f0]; rfl
 have T4 := T3.bZ 0 (.int .i64 39) ({ s1 with p := { s1.p with k := kk, ln := 39 } } : Wk) rfl
 have L4 := L3.setCell (g := w.heap.size) aj 0 (.int .i64 39)
 have hp := L1.p
 have HP := Lib.hid hp
 clear L1 hb1 T0 x0 hp
 go_wp2_with (first | (refine wpList_store_row rfl 46 _ _ rfl (w.heap.size) (wc s1) rfl rfl _ _ dG ah ah ah ?_; rw [← hw2]; clear hw2 T1) | (refine wpList_load_row rfl 46 _ rfl (w.heap.size) rfl _ (wc ({ s1 with p := { s1.p with k := kk, ln := 39 } } : Wk)) (0, 0) _ qa4z Tryz.underlying46 rfl ah ?_) | (refine wpList_store_row rfl 46 _ _ rfl (w.heap.size + 1) (wc ({ s1 with p := { s1.p with k := kk, ln := 39 } } : Wk)) rfl rfl _ _ qa50 ah ah ah ?_))
 have T5 := T4.bN ({ s1 with p := { s1.p with k := kk, ln := 39 } } : Wk)
 have L5 := L4.setRow (g := w.heap.size + 1) aj (wc ({ s1 with p := { s1.p with k := kk, ln := 39 } } : Wk))
 refine bodyPost_ret (v := .tuple #[wv ({ s1 with p := { s1.p with k := kk, ln := 39 } } : Wk), .int .i64 0]) ?_ rfl ⟨_, rfl, ?_, T5.below⟩
 ·exact qa14
 ·exact qa15
theorem giveBegin (s : Wk) (x : St) (hx : Few 900 x) (w : World) (h : aP w s x) : Calls Tryz.prog 188 #[wv s] w fun e w' => ∃ s', e = .returned (.tuple #[wv s', .int .i64 (gvW x)]) ∧ aQ w.heap.size w' s' (gvS x) ∧ Below w.heap.size w w' := by
 unfold gvW gvS
 by_cases hm : x.hl = []
 ·rw [if_pos hm, if_pos hm]
  exact giveBegin_no s x hx w h hm
 ·rw [if_neg hm, if_neg hm]
  exact giveBegin_yes s x hx w h hm
end Go.Proofs.YtaiodbcnbcdokaaGreat.Me
namespace Go.Proofs.YtaiodbcnbcdokaaGreat.Me
open Go Go.RowKit Gro Own Wd Ap Go.Proofs.YtaiodbcnbcdokaaGreat.Pl Wo
structure Rs where
 (a : Acc) (L : List Int) (x : St) (way : Int) (ok : Bool)
def LG (B : Nat) (w0 : World) (g gl cap gx : Nat) (c : Cfg) (n : Nat) (r : Rs) (e : Ending) (w' : World) : Prop := ∃ s3 : Wk, e = .returned (.int .i64 r.way) ∧ MX B w0 g gl cap gx c r.a r.L s3 w' ∧ aQ n w' s3 r.x
def GS (B g gl cap : Nat) (c : Cfg) (r : Rs) (w : World) (e : Ending) (w' : World) : Prop :=
 ∃ s2, e = .returned (.tuple #[wv s2, .int .i64 r.way, .bool r.ok]) ∧ aQ w.heap.size w' s2 r.x ∧ aC B w' g c r.a gl cap r.L ∧ Touch g gl w w'
theorem liesF_end {B B' gz : Nat} {w : World} {s1 : Wk} {x : St} (h : aQ B w s1 x) (hz : gz < B) (hb : B' ≤ B) (cs : Array Value) : aQ B' (w.setRow gz cs) s1 x := (h.setRow hz cs).base hb
def jv (a : Acc) (L : List Int) (x : St) : Rs := ⟨a, L, gvS x, gvW x, true⟩
def gvPark (c : Cfg) (a : Acc) (L : List Int) (x : St) : Rs :=
 let r := (fq c a L x.p).fin
 if r.way = 0 then ⟨r.a, r.L, { x with p := r.p }, 0, true⟩ else jv r.a r.L { x with p := r.p }
def gvPush (c : Cfg) (a : Acc) (L : List Int) (x : St) : Rs :=
 let r := (aT c a L x.p).fin
 if r.way = 0 then ⟨r.a, r.L, { x with p := r.p }, 0, true⟩ else jv r.a r.L { x with p := { r.p with k := 0 } }
def gvRoute (c : Cfg) (a : Acc) (L : List Int) (x : St) : Rs :=
 let r := (fq c a L x.p).fin
 if r.way = 2 then ⟨r.a, r.L, { x with p := { r.p with ln := 30 } }, 0, true⟩
 else
  let y := putS c.rk { x with p := r.p } (wrap64 (r.p.k - 1))
  if (x.rk.length : Int) < c.rk then jv r.a r.L { y with p := { y.p with k := 0 } } else ⟨r.a, r.L, { y with p := { y.p with ln := 13 } }, 0, true⟩
def dV (c : Cfg) (a : Acc) (L : List Int) (x : St) : Rs :=
 if x.p.ln = 39 then gvRoute c a L x else if x.p.ln = 30 ∨ x.p.ln = 31 ∨ x.p.ln = 32 then gvPark c a L x else if x.p.ln = 13 ∨ x.p.ln = 14 ∨ x.p.ln = 15 then gvPush c a L x else ⟨a, L, x, 0, false⟩
theorem giveAgain {B n : Nat} {w0 w : World} {g gl cap gx : Nat} {c : Cfg} {a : Acc} {L : List Int} {s : Wk} (h : MX B w0 g gl cap gx c a L s w) (x : St) (hx : Few 900 x) (A : aQ n w s x) (hn : n ≤ w.heap.size) (hg : gx < n) :
  Calls Tryz.prog 222 #[.pointer (some ⟨gx, 0, none⟩)] w (LG B w0 g gl cap gx c n (jv a L x)) := by
 have HS := Lib.hid (giveBegin s x hx w A.lies)
 have X0 := h.X
 go_enter Tryz.func222, Tryz.ntmps222
 go_wp2_with (first | (refine wpList_load_row rfl 46 _ rfl (gx) rfl _ (wc s) (0, 0) _ qa5m Tryz.underlying46 rfl ah ?_))
 refine HS.out.mono ?_
 rintro e w1 ⟨s2, rfl, A2, hb1⟩
 have H2 := h.keep hb1
 have sz1 := hb1.size
 clear X0
 have b3 := bH w1 s2
 have Z3 := dx w1 s2
 have H3 := H2.keep b3
 have A3 := A2.keep b3
 have Y1 : Bk (w1.alloc (.cells (wc wz) 46)) w1.heap.size (wc wz) 46 := Bk.new _ _ _
 obtain ⟨w3, hw3⟩ : ∃ u, u = (w1.alloc (.cells (wc wz) 46)).setRow w1.heap.size (wc s2) := ⟨_, rfl⟩
 rw [← hw3] at b3 Z3 H3 A3
 have H4 := H3.row s2
 have X3 := H3.X
 have A4 := (A3.base hn).setRow hg (wc s2)
 clear hb1
 go_wp2_with (first | ((with_reducible refine au rfl rfl ?_)) | (refine wpList_store_row rfl 46 _ _ rfl (w1.heap.size) (wc s2) rfl rfl _ _ qa5n ah ah ah ?_; rw [← hw3]; clear hw3 Y1) | (refine wpList_load_row rfl 46 _ rfl (w1.heap.size) rfl _ (wc s2) (0, 0) _ qa5o Tryz.underlying46 rfl ah ?_) | (refine wpList_store_row rfl 46 _ _ rfl (gx) (wc s2) rfl rfl _ _ qa5p ah ah ah ?_))
 go_ret
 exact ⟨s2, rfl, H4, A4⟩
theorem givePark {B n : Nat} {w0 w : World} {g gl cap gx : Nat} {c : Cfg} {a : Acc} {L : List Int} {s : Wk} (h : MX B w0 g gl cap gx c a L s w) (hm : L.length ≤ 1000) (hL : WR L) (hf : c.Wf) (x : St) (hx : Few 800 x) (A : aQ n w s x) (hp : PR x.p) (hn : n ≤ w.heap.size) (hg : gx < n) :
  Calls Tryz.prog 198 #[.pointer (some ⟨g, 0, none⟩), .pointer (some ⟨gx, 0, none⟩)] w (LG B w0 g gl cap gx c n (gvPark c a L x)) := by
 unfold gvPark
 have HS := Lib.hid (gP h.M hf hm hL s x (hx.mono aj) A.lies hp)
 obtain ⟨r, hr⟩ : ∃ r, r = (fq c a L x.p).fin := ⟨_, rfl⟩
 rw [← hr] at HS ⊢
 obtain ⟨ra, rL, rp, rw', rok⟩ := r
 simp only at *
 clear hr
 have X0 := h.X
 have f0 : ∀ s : Wk, (wc s)[0]? = some (.int .i64 s.p.ln) := fun _ => rfl
 have f19 : ∀ s : Wk, (wc s)[19]? = some (.int .i64 s.p.k) := fun _ => rfl
 by_cases hw : rw' = 0
 ·rw [if_pos hw]
  have t1 : (rw' == 0) = true := qa5q
  have HW := Lib.hid hw
  clear hw
  go_enter Tryz.func198, Tryz.ntmps198
  exact qa16
 ·rw [if_neg hw]
  have t1 : (rw' == 0) = false := qa5q
  have hx' : Few 900 x := hx.mono aj
  clear hw
  go_enter Tryz.func198, Tryz.ntmps198
  go_wp2_with (first | (refine wpList_load_row rfl 46 _ rfl (gx) rfl _ (wc s) (0, 0) _ qa5m Tryz.underlying46 rfl ah ?_))
  refine HS.out.mono ?_
  rintro e w1 ⟨s2, rfl, A2, M2, T2⟩
  have H2 := h.mem M2 T2
  clear X0
  have b3 := bH w1 s2
  have Z3 := dx w1 s2
  have H3 := H2.keep b3
  have A3 := A2.dL.keep b3
  have Y1 : Bk (w1.alloc (.cells (wc wz) 46)) w1.heap.size (wc wz) 46 := Bk.new _ _ _
  have sz3 : n ≤ w1.heap.size := qa5r
  obtain ⟨w3, hw3⟩ : ∃ u, u = (w1.alloc (.cells (wc wz) 46)).setRow w1.heap.size (wc s2) := ⟨_, rfl⟩
  have sz4 : w1.heap.size ≤ w3.heap.size := qa5s
  rw [← hw3] at b3 Z3 H3 A3
  have H4 := H3.row s2
  have X3 := H3.X
  have A4 := (A3.base hn).setRow hg (wc s2)
  obtain ⟨w5, hw5⟩ : ∃ u, u = w3.setRow gx (wc s2) := ⟨_, rfl⟩
  have sz5 : w3.heap.size = w5.heap.size := qa5t
  rw [← hw5] at H4 A4
  have ep := A2.p
  simp only at ep
  clear H2 A2 M2 T2
  have HEP := Lib.hid ep
  clear ep
  have HG := Lib.hid (giveAgain H4 { x with p := rp } ⟨hx'.rk, hx'.l0, hx'.l1, hx'.l2, hx'.hl, hx'.rd⟩ A4 aj hg)
  exact qa17
theorem givePush {B n : Nat} {w0 w : World} {g gl cap gx : Nat} {c : Cfg} {a : Acc} {L : List Int} {s : Wk} (h : MX B w0 g gl cap gx c a L s w) (hm : L.length ≤ 1000) (hL : WR L) (hf : c.Wf) (x : St) (hx : Few 800 x) (A : aQ n w s x) (hp : PR x.p) (hn : n ≤ w.heap.size) (hg : gx < n) :
  Calls Tryz.prog 199 #[.pointer (some ⟨g, 0, none⟩), .pointer (some ⟨gx, 0, none⟩)] w (LG B w0 g gl cap gx c n (gvPush c a L x)) := by
 unfold gvPush
 have HS := Lib.hid (fQ h.M hf hm hL s x (hx.mono aj) A.lies hp)
 obtain ⟨r, hr⟩ : ∃ r, r = (aT c a L x.p).fin := ⟨_, rfl⟩
 rw [← hr] at HS ⊢
 obtain ⟨ra, rL, rp, rw', rok⟩ := r
 simp only at *
 clear hr
 have X0 := h.X
 have f0 : ∀ s : Wk, (wc s)[0]? = some (.int .i64 s.p.ln) := fun _ => rfl
 have f19 : ∀ s : Wk, (wc s)[19]? = some (.int .i64 s.p.k) := fun _ => rfl
 by_cases hw : rw' = 0
 ·rw [if_pos hw]
  have t1 : (rw' == 0) = true := qa5q
  have HW := Lib.hid hw
  clear hw
  go_enter Tryz.func199, Tryz.ntmps199
  exact qa16
 ·rw [if_neg hw]
  have t1 : (rw' == 0) = false := qa5q
  have hx' : Few 900 x := hx.mono aj
  clear hw
  go_enter Tryz.func199, Tryz.ntmps199
  go_wp2_with (first | (refine wpList_load_row rfl 46 _ rfl (gx) rfl _ (wc s) (0, 0) _ qa5m Tryz.underlying46 rfl ah ?_))
  refine HS.out.mono ?_
  rintro e w1 ⟨s2, rfl, A2, M2, T2⟩
  have H2 := h.mem M2 T2
  clear X0
  have b3 := bH w1 s2
  have Z3 := dx w1 s2
  have H3 := H2.keep b3
  have A3 := A2.dL.keep b3
  have Y1 : Bk (w1.alloc (.cells (wc wz) 46)) w1.heap.size (wc wz) 46 := Bk.new _ _ _
  have sz3 : n ≤ w1.heap.size := qa5r
  obtain ⟨w3, hw3⟩ : ∃ u, u = (w1.alloc (.cells (wc wz) 46)).setRow w1.heap.size (wc s2) := ⟨_, rfl⟩
  have sz4 : w1.heap.size ≤ w3.heap.size := qa5s
  rw [← hw3] at b3 Z3 H3 A3
  have H4 := H3.row s2
  have X3 := H3.X
  have A4 := (A3.base hn).setRow hg (wc s2)
  obtain ⟨w5, hw5⟩ : ∃ u, u = w3.setRow gx (wc s2) := ⟨_, rfl⟩
  have sz5 : w3.heap.size = w5.heap.size := qa5t
  rw [← hw5] at H4 A4
  have ep := A2.p
  simp only at ep
  clear H2 A2 M2 T2
  have HEP := Lib.hid ep
  clear ep
  have x5 := H4.X.cells
  have z5 := H4.X.frozen
  have e5 : (w5.cell? ⟨gx, 19, none⟩).isSome = true := by rw [x5, f19]; rfl
  have H5 := H4.set (s' := { s2 with p := { s2.p with k := 0 } }) 19 (.int .i64 0) rfl
  have A5 := A4.setCell hg 19 (.int .i64 0)
  have A6 : aQ n (w5.setCell ⟨gx, 19, none⟩ (.int .i64 0)) ({ s2 with p := { s2.p with k := 0 } } : Wk) { x with p := { rp with k := 0 } } := ⟨by rw [HEP.out], A5.rk, A5.l0, A5.l1, A5.l2, A5.hl, A5.rd⟩
  have HG := Lib.hid (giveAgain H5 { x with p := { rp with k := 0 } } ⟨hx'.rk, hx'.l0, hx'.l1, hx'.l2, hx'.hl, hx'.rd⟩ A6 bq hg)
  exact qa17
end Go.Proofs.YtaiodbcnbcdokaaGreat.Me
namespace Go.Proofs.YtaiodbcnbcdokaaGreat.Me
open Go Go.RowKit Gro Own Wd Ap Go.Proofs.YtaiodbcnbcdokaaGreat.Pl Wo
section
variable {P : Program} {ops : Array Oper} {a : Act} {o : Oper} {w : World} {K : Act → World → Prop} {Q : Exit → Act → World → Prop} {E : Prop}
theorem iX (hgd : o.guard = none) (ty : TypeId) (x : Operand) (ho : o.op = .load ty x) (g : Nat) (hx : a.eval x = .pointer (some ⟨g, 0, none⟩)) (cs : Array Value) (t : TypeId) (d : TypeDesc)
  (hg : Bk w g cs t) (hu : P.underlying ty = some d) (hd : (match d with | .struct _ | .array _ _ => true | _ => false) = true) (hi : (P.info? ty).map (·.size) = some cs.size)
  (h : K (a.put o.dst (.agg cs)) w) : if Region.wanted o (yielded ops a.tmps) = true then Oper.wp P o a w K Q else E := by
 rw [if_pos qa56]
 exact wp_load_row ty x ho g hx t cs (0, 0) d hg hu hd hi h
end
theorem few_put {x : St} {p : Pl} (h : Few 800 x) (n b k : Int) : Few 900 { putS n { x with p := p } b with p := { (putS n { x with p := p } b).p with k := k } } := by
 unfold putS
 split
 ·exact qa18
 ·exact qa18
theorem MX.box {B : Nat} {w0 w : World} {g gl cap gx : Nat} {c : Cfg} {a : Acc} {L : List Int} {s : Wk} (h : MX B w0 g gl cap gx c a L s w) {bx : Nat} (hb : w0.heap.size ≤ bx) (h1 : bx ≠ g) (h2 : bx ≠ gl) (h3 : bx ≠ gx) (cs : Array Value) : MX B w0 g gl cap gx c a L s (w.setRow bx cs) :=
 ⟨h.M.apart (g' := bx) (gl' := bx) ((Touch.refl bx bx w).setRow _) h1.symm h1.symm h2.symm h2.symm, (setRow_other w bx gx cs h3.symm).trans h.X, ⟨h.T.os, h.T.tape, h.T.output, by simpa using h.T.size, fun k hk e1 e2 e3 => (setRow_other w bx k cs aj).trans (h.T.block k hk e1 e2 e3)⟩, h.n1, h.n2⟩
theorem giveRoute {B n : Nat} {w0 w : World} {g gl cap gx : Nat} {c : Cfg} {a : Acc} {L : List Int} {s : Wk} (h : MX B w0 g gl cap gx c a L s w) (hm : L.length ≤ 1000) (hL : WR L) (hf : c.Wf) (x : St) (hx : Few 800 x) (A : aQ n w s x) (hp : PR x.p) (hn : n ≤ w.heap.size) (hg : gx < n) :
  Calls Tryz.prog 197 #[.pointer (some ⟨g, 0, none⟩), .pointer (some ⟨gx, 0, none⟩)] w (LG B w0 g gl cap gx c n (gvRoute c a L x)) := by
 unfold gvRoute
 have HS := Lib.hid (gP h.M hf hm hL s x (hx.mono aj) A.lies hp)
 obtain ⟨r, hr⟩ : ∃ r, r = (fq c a L x.p).fin := ⟨_, rfl⟩
 rw [← hr] at HS ⊢
 obtain ⟨ra, rL, rp, rw', rok⟩ := r
 simp only at *
 clear hr
 have X0 := h.X
 have f0 : ∀ s : Wk, (wc s)[0]? = some (.int .i64 s.p.ln) := fun _ => rfl
 have f19 : ∀ s : Wk, (wc s)[19]? = some (.int .i64 s.p.k) := fun _ => rfl
 by_cases hw : rw' = 2
 ·rw [if_pos hw]
  have t1 : (rw' == 2) = true := qa5q
  clear hw
  go_enter Tryz.func197, Tryz.ntmps197
  go_wp2_with (first | (refine wpList_load_row rfl 46 _ rfl (gx) rfl _ (wc s) (0, 0) _ qa5m Tryz.underlying46 rfl ah ?_))
  refine HS.out.mono ?_
  rintro e w1 ⟨s2, rfl, A2, M2, T2⟩
  have H2 := h.mem M2 T2
  clear X0
  have b3 := bH w1 s2
  have Z3 := dx w1 s2
  have H3 := H2.keep b3
  have A3 := A2.dL.keep b3
  have Y1 : Bk (w1.alloc (.cells (wc wz) 46)) w1.heap.size (wc wz) 46 := Bk.new _ _ _
  have sz3 : n ≤ w1.heap.size := qa5r
  have sz2 : w.heap.size ≤ w1.heap.size := T2.size
  have sz0 : w0.heap.size ≤ w1.heap.size := H2.T.size
  obtain ⟨w3, hw3⟩ : ∃ u, u = (w1.alloc (.cells (wc wz) 46)).setRow w1.heap.size (wc s2) := ⟨_, rfl⟩
  have sz4 : w1.heap.size + 1 = w3.heap.size := qa5s
  rw [← hw3] at b3 Z3 H3 A3
  have X3 := H3.X
  have ep := A2.p
  simp only at ep
  have lg2 := H2.M.lt
  have lx2 := H2.X.lt
  clear H2 A2 M2 T2
  have H4 := H3.row s2
  have A4 := (A3.base hn).setRow hg (wc s2)
  obtain ⟨w5, hw5⟩ : ∃ u, u = w3.setRow gx (wc s2) := ⟨_, rfl⟩
  rw [← hw5] at H4 A4
  have x5 := H4.X.cells
  have z5 := H4.X.frozen
  have e5 : (w5.cell? ⟨gx, 0, none⟩).isSome = true := by rw [x5, f0]; rfl
  have H5 := H4.set (s' := { s2 with p := { s2.p with ln := 30 } }) 0 (.int .i64 30) rfl
  have A5 := A4.setCell hg 0 (.int .i64 30)
  have HEP := Lib.hid ep
  clear ep lg2 lx2
  go_wp2_with (first | ((with_reducible refine au rfl rfl ?_)) | (refine wpList_store_row rfl 46 _ _ rfl (w1.heap.size) (wc s2) rfl rfl _ _ qa5n ah ah ah ?_; rw [← hw3]; clear hw3 Y1) | (refine wpList_load_row rfl 46 _ rfl (w1.heap.size) rfl _ (wc s2) (0, 0) _ qa5o Tryz.underlying46 rfl ah ?_) | (refine wpList_store_row rfl 46 _ _ rfl (gx) (wc s2) rfl rfl _ _ qa5p ah ah ah ?_; rw [← hw5]; clear hw5 X3))
  go_ret
  exact ⟨_, rfl, H5, ⟨by rw [HEP.out], A5.rk, A5.l0, A5.l1, A5.l2, A5.hl, A5.rd⟩⟩
 ·rw [if_neg hw]
  have t1 : (rw' == 2) = false := qa5q
  clear hw
  by_cases hput : (x.rk.length : Int) < c.rk
  ·rw [if_pos hput]
   have hdc : decide ((x.rk.length : Int) < c.rk) = true := by simp [hput]
   have HDC := Lib.hid hdc
   obtain ⟨kk, hkk⟩ : ∃ k, k = wrap64 (rp.k - 1) := ⟨_, rfl⟩
   rw [← hkk]
   have HKK := Lib.hid hkk
   clear hdc hput hkk
   go_enter Tryz.func197, Tryz.ntmps197
   go_wp2_with (first | (refine wpList_load_row rfl 46 _ rfl (gx) rfl _ (wc s) (0, 0) _ qa5m Tryz.underlying46 rfl ah ?_))
   refine HS.out.mono ?_
   rintro e w1 ⟨s2, rfl, A2, M2, T2⟩
   have H2 := h.mem M2 T2
   clear X0
   have b3 := bH w1 s2
   have Z3 := dx w1 s2
   have H3 := H2.keep b3
   have A3 := A2.dL.keep b3
   have Y1 : Bk (w1.alloc (.cells (wc wz) 46)) w1.heap.size (wc wz) 46 := Bk.new _ _ _
   have sz3 : n ≤ w1.heap.size := qa5r
   have sz2 : w.heap.size ≤ w1.heap.size := T2.size
   have sz0 : w0.heap.size ≤ w1.heap.size := H2.T.size
   obtain ⟨w3, hw3⟩ : ∃ u, u = (w1.alloc (.cells (wc wz) 46)).setRow w1.heap.size (wc s2) := ⟨_, rfl⟩
   have sz4 : w1.heap.size + 1 = w3.heap.size := qa5s
   rw [← hw3] at b3 Z3 H3 A3
   have X3 := H3.X
   have ep := A2.p
   simp only at ep
   have lg2 := H2.M.lt
   have lx2 := H2.X.lt
   clear H2 A2 M2 T2
   have hk2 : wrap64 (s2.p.k - 1) = kk := by rw [ep, HKK.out]
   have HEP := Lib.hid ep
   have HK2 := Lib.hid hk2
   have nb1 : w1.heap.size ≠ g := aj
   have nb2 : w1.heap.size ≠ gl := aj
   have nb3 : w1.heap.size ≠ gx := aj
   have HX' : RowKit.Hid (Few 900 { x with p := rp }) := Lib.hid ⟨(hx.mono (by omega : 800 ≤ 900)).rk, (hx.mono (by omega : 800 ≤ 900)).l0, (hx.mono (by omega : 800 ≤ 900)).l1, (hx.mono (by omega : 800 ≤ 900)).l2, (hx.mono (by omega : 800 ≤ 900)).hl, (hx.mono (by omega : 800 ≤ 900)).rd⟩
   clear ep hk2
   go_wp2_with (first | ((with_reducible refine au rfl rfl ?_)) | (refine wpList_store_row rfl 46 _ _ rfl (w1.heap.size) (wc s2) rfl rfl _ _ qa5n ah ah ah ?_; rw [← hw3]; clear hw3 Y1))
   have hz0 : Below w3.heap.size w3 w3.drew := Below.drew (Below.refl _ _)
   have H5 := H3.keep hz0
   have Z5 := Z3.keep hz0
   have A5 := A3.keep hz0
   have sz5 : w3.heap.size = w3.drew.heap.size := rfl
   refine wp_region_held_drew (S := fun w' => Bk w' g (mc c ra ⟨some ⟨gl, 0, none⟩, rL.length, cap⟩) 99) ah H5.M.B (fun hHeld => ?_)
   obtain ⟨z0, hz⟩ : ∃ u, u = w3.drew := ⟨_, rfl⟩
   rw [← hz] at H5 Z5 A5 sz5 hHeld ⊢
   clear hz hz0 H3 Z3 A3 X3
   have xg := H5.M.B.cells
   have xb := Z5.cells
   refine jT 0 (.pointer (some ⟨g, 0, none⟩)) rfl hHeld ?_
   try simp only [Act.put, jP]
   refine jT 1 (.pointer (some ⟨g, 0, none⟩)) rfl hHeld ?_
   try simp only [Act.put, jP]
   refine jT 2 (.pointer (some ⟨g, 0, none⟩)) rfl hHeld ?_
   try simp only [Act.put, jP]
   refine jT 3 (.pointer (some ⟨g, 0, none⟩)) rfl hHeld ?_
   try simp only [Act.put, jP]
   refine jT 6 (.pointer (some ⟨w1.heap.size, 19, none⟩)) rfl hHeld ?_
   try simp only [Act.put, jP]
   refine jY 4 (cv c) rfl (Or.inl ⟨by rfl, fun w' hSw => by have xx := hSw.cells; go_simp⟩) hHeld ?_
   try simp only [Act.put, jP]
   refine jR [5, 7] ?_
   refine jC rfl (fun K hK => ?_) (jC rfl (fun K hK => ?_) (jN))
   ·refine iX rfl 46 _ rfl (w1.heap.size) rfl (wc s2) 46 _ qa5u Tryz.underlying46 rfl ah ?_
    refine hK.out _ _ hHeld (fun hHeld => ?_)
    clear hK K
    try simp only [Act.put, jP]
    refine jR [7] ?_
    refine jC rfl (fun K hK => ?_) (jN)
    ·go_simp
     refine hK.out _ _ hHeld (fun hHeld => ?_)
     clear hK K
     try simp only [Act.put, jP]
     refine jY 8 (.int .i64 kk) rfl (Or.inl ⟨by rfl, fun w' hSw => by have hk2 := HK2.out; go_simp; try exact (IntWalk.i64_left _).trans hk2⟩) hHeld ?_
     exact qa19
   ·go_simp
    refine hK.out _ _ hHeld (fun hHeld => ?_)
    clear hK K
    try simp only [Act.put, jP]
    refine jY 8 (.int .i64 kk) rfl (Or.inl ⟨by rfl, fun w' hSw => by have hk2 := HK2.out; go_simp; try exact (IntWalk.i64_left _).trans hk2⟩) hHeld ?_
    try simp only [Act.put, jP]
    refine jR [5] ?_
    refine jC rfl (fun K hK => ?_) (jN)
    ·refine iX rfl 46 _ rfl (w1.heap.size) rfl (wc s2) 46 _ qa5u Tryz.underlying46 rfl ah ?_
     refine hK.out _ _ hHeld (fun hHeld => ?_)
     clear hK K
     exact qa19
  ·rw [if_neg hput]
   have hdc : decide ((x.rk.length : Int) < c.rk) = false := by simp [hput]
   have HDC := Lib.hid hdc
   obtain ⟨kk, hkk⟩ : ∃ k, k = wrap64 (rp.k - 1) := ⟨_, rfl⟩
   rw [← hkk]
   have HKK := Lib.hid hkk
   clear hdc hput hkk
   go_enter Tryz.func197, Tryz.ntmps197
   go_wp2_with (first | (refine wpList_load_row rfl 46 _ rfl (gx) rfl _ (wc s) (0, 0) _ qa5m Tryz.underlying46 rfl ah ?_))
   refine HS.out.mono ?_
   rintro e w1 ⟨s2, rfl, A2, M2, T2⟩
   have H2 := h.mem M2 T2
   clear X0
   have b3 := bH w1 s2
   have Z3 := dx w1 s2
   have H3 := H2.keep b3
   have A3 := A2.dL.keep b3
   have Y1 : Bk (w1.alloc (.cells (wc wz) 46)) w1.heap.size (wc wz) 46 := Bk.new _ _ _
   have sz3 : n ≤ w1.heap.size := qa5r
   have sz2 : w.heap.size ≤ w1.heap.size := T2.size
   have sz0 : w0.heap.size ≤ w1.heap.size := H2.T.size
   obtain ⟨w3, hw3⟩ : ∃ u, u = (w1.alloc (.cells (wc wz) 46)).setRow w1.heap.size (wc s2) := ⟨_, rfl⟩
   have sz4 : w1.heap.size + 1 = w3.heap.size := qa5s
   rw [← hw3] at b3 Z3 H3 A3
   have X3 := H3.X
   have ep := A2.p
   simp only at ep
   have lg2 := H2.M.lt
   have lx2 := H2.X.lt
   clear H2 A2 M2 T2
   have hk2 : wrap64 (s2.p.k - 1) = kk := by rw [ep, HKK.out]
   have HEP := Lib.hid ep
   have HK2 := Lib.hid hk2
   have nb1 : w1.heap.size ≠ g := aj
   have nb2 : w1.heap.size ≠ gl := aj
   have nb3 : w1.heap.size ≠ gx := aj
   have HX' : RowKit.Hid (Few 900 { x with p := rp }) := Lib.hid ⟨(hx.mono (by omega : 800 ≤ 900)).rk, (hx.mono (by omega : 800 ≤ 900)).l0, (hx.mono (by omega : 800 ≤ 900)).l1, (hx.mono (by omega : 800 ≤ 900)).l2, (hx.mono (by omega : 800 ≤ 900)).hl, (hx.mono (by omega : 800 ≤ 900)).rd⟩
   clear ep hk2
   go_wp2_with (first | ((with_reducible refine au rfl rfl ?_)) | (refine wpList_store_row rfl 46 _ _ rfl (w1.heap.size) (wc s2) rfl rfl _ _ qa5n ah ah ah ?_; rw [← hw3]; clear hw3 Y1))
   have hz0 : Below w3.heap.size w3 w3.drew := Below.drew (Below.refl _ _)
   have H5 := H3.keep hz0
   have Z5 := Z3.keep hz0
   have A5 := A3.keep hz0
   have sz5 : w3.heap.size = w3.drew.heap.size := rfl
   refine wp_region_held_drew (S := fun w' => Bk w' g (mc c ra ⟨some ⟨gl, 0, none⟩, rL.length, cap⟩) 99) ah H5.M.B (fun hHeld => ?_)
   obtain ⟨z0, hz⟩ : ∃ u, u = w3.drew := ⟨_, rfl⟩
   rw [← hz] at H5 Z5 A5 sz5 hHeld ⊢
   clear hz hz0 H3 Z3 A3 X3
   have xg := H5.M.B.cells
   have xb := Z5.cells
   refine jT 0 (.pointer (some ⟨g, 0, none⟩)) rfl hHeld ?_
   try simp only [Act.put, jP]
   refine jT 1 (.pointer (some ⟨g, 0, none⟩)) rfl hHeld ?_
   try simp only [Act.put, jP]
   refine jT 2 (.pointer (some ⟨g, 0, none⟩)) rfl hHeld ?_
   try simp only [Act.put, jP]
   refine jT 3 (.pointer (some ⟨g, 0, none⟩)) rfl hHeld ?_
   try simp only [Act.put, jP]
   refine jT 6 (.pointer (some ⟨w1.heap.size, 19, none⟩)) rfl hHeld ?_
   try simp only [Act.put, jP]
   refine jY 4 (cv c) rfl (Or.inl ⟨by rfl, fun w' hSw => by have xx := hSw.cells; go_simp⟩) hHeld ?_
   try simp only [Act.put, jP]
   refine jR [5, 7] ?_
   refine jC rfl (fun K hK => ?_) (jC rfl (fun K hK => ?_) (jN))
   ·refine iX rfl 46 _ rfl (w1.heap.size) rfl (wc s2) 46 _ qa5u Tryz.underlying46 rfl ah ?_
    refine hK.out _ _ hHeld (fun hHeld => ?_)
    clear hK K
    try simp only [Act.put, jP]
    refine jR [7] ?_
    refine jC rfl (fun K hK => ?_) (jN)
    ·go_simp
     refine hK.out _ _ hHeld (fun hHeld => ?_)
     clear hK K
     try simp only [Act.put, jP]
     refine jY 8 (.int .i64 kk) rfl (Or.inl ⟨by rfl, fun w' hSw => by have hk2 := HK2.out; go_simp; try exact (IntWalk.i64_left _).trans hk2⟩) hHeld ?_
     exact qa1a
   ·go_simp
    refine hK.out _ _ hHeld (fun hHeld => ?_)
    clear hK K
    try simp only [Act.put, jP]
    refine jY 8 (.int .i64 kk) rfl (Or.inl ⟨by rfl, fun w' hSw => by have hk2 := HK2.out; go_simp; try exact (IntWalk.i64_left _).trans hk2⟩) hHeld ?_
    try simp only [Act.put, jP]
    refine jR [5] ?_
    refine jC rfl (fun K hK => ?_) (jN)
    ·refine iX rfl 46 _ rfl (w1.heap.size) rfl (wc s2) 46 _ qa5u Tryz.underlying46 rfl ah ?_
     refine hK.out _ _ hHeld (fun hHeld => ?_)
     clear hK K
     exact qa1a
end Go.Proofs.YtaiodbcnbcdokaaGreat.Me
