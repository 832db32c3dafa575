/- Part Takes. -/
import Derived.Test.YtaiodbcnbcdokaaGreatKGives
import Derived.Test.YtaiodbcnbcdokaaGreatKGuardSee0
import Derived.Test.YtaiodbcnbcdokaaGreatKEnv
set_option linter.unusedVariables false
set_option linter.unusedSimpArgs false
set_option linter.unusedSectionVars false
set_option maxRecDepth 100000
set_option maxHeartbeats 16000000
namespace Go.Proofs.YtaiodbcnbcdokaaGreat.Me
open Go Go.RowKit Gro Own Wd Ap Go.Proofs.YtaiodbcnbcdokaaGreat.Pl Wo
def tkS (x : St) : St := if x.rk = [] then { x with p := { x.p with ln := 10 } } else { takeS x with p := { (takeS x).p with b := wrap64 (takeB x + 1), ln := 35 } }
def tkAgain (a : Acc) (L : List Int) (x : St) : Rs := ⟨a, L, tkS x, 0, true⟩
def tkPop (c : Cfg) (a : Acc) (L : List Int) (x : St) : Rs :=
 let r := (aT c a L x.p).fin
 ⟨r.a, r.L, { x with p := if r.way = 1 then { r.p with b := wrap64 r.p.h, ln := 35 } else if r.way = 2 then { r.p with u := r.p.v / 4294967296, j := 0, ln := 33 } else r.p }, 0, true⟩
def tkPark (c : Cfg) (a : Acc) (L : List Int) (x : St) : Rs :=
 let r := (fq c a L x.p).fin
 if r.way = 1 then tkAgain r.a r.L { x with p := r.p } else ⟨r.a, r.L, { x with p := r.p }, 0, true⟩
def bsOf (c : Cfg) (j : Int) : List Int := (List.range c.bl.toNat).map fun (i : Nat) => wrap64 (wrap64 (j * c.bl) + ((i : Nat) : Int))
def tkClaim (c : Cfg) (a : Acc) (L : List Int) (x : St) : Rs :=
 let r := (fq c a L x.p).fin
 if r.way = 1 then ⟨r.a, r.L, holdS { x with p := { r.p with b := wrap64 ((bsOf c r.p.j).headD 0 + 1) } } (bsOf c r.p.j).tail, 1, true⟩ else ⟨r.a, r.L, { x with p := if r.way = 2 then { r.p with ln := 38 } else r.p }, 0, true⟩
def iT (c : Cfg) (a : Acc) (L : List Int) (x : St) : Rs :=
 let r := (fq c a L x.p).fin
 if r.way = 1 then ⟨r.a, r.L, { x with p := r.p }, 1, true⟩ else ⟨r.a, r.L, { x with p := { r.p with k := r.p.b, b := 0, ln := 30 } }, 0, true⟩
def iR (c : Cfg) (a : Acc) (L : List Int) (x : St) : Rs :=
 if ldV L 1 % 4294967296 - 1 < 0 ∧ ldV L 1 / 4294967296 = x.p.u then ⟨acc L 1 1 0 0, L, x, 2, true⟩ else tkAgain (acc L 1 1 0 0) L x
def dD (c : Cfg) (a : Acc) (L : List Int) (x : St) : Rs :=
 if x.p.ln = 10 ∨ x.p.ln = 11 ∨ x.p.ln = 12 then tkPop c a L x else if x.p.ln = 30 ∨ x.p.ln = 31 ∨ x.p.ln = 32 then tkPark c a L x else if x.p.ln = 33 ∨ x.p.ln = 34 then tkClaim c a L x else if x.p.ln = 35 then iT c a L x else if x.p.ln = 38 then iR c a L x else ⟨a, L, x, 0, false⟩
theorem readsTouchT {w w' : World} {k : IntKind} {y : Sl} {l : List Int} {a b : Nat} (h : Reads w k y.v l) (t : Touch a b w w') (h1 : l = [] ∨ ∀ d, y.ad = some d → d.block ≠ a) (h2 : l = [] ∨ ∀ d, y.ad = some d → d.block ≠ b) : Reads w' k y.v l := by
 obtain ⟨ad, cap, he, q1, q2, h3⟩ := h
 refine ⟨ad, cap, he, q1, q2, ?_⟩
 rcases h3 with h3 | ⟨c, off, rfl, hlt, h3⟩
 ·exact .inl h3
 ·rcases h1 with h1 | h1
  ·exact .inl h1
  ·rcases h2 with h2 | h2
   ·exact .inl h2
   ·simp only [Sl.v, Value.slice.injEq] at he
    exact .inr ⟨c, off, rfl, Nat.lt_of_lt_of_le hlt t.size, fun i hi => (World.cell?_of_block (t.block c hlt (h1 _ he.1) (h2 _ he.1))).trans (h3 i hi)⟩
theorem iU {w w' : World} {B : Nat} {k : IntKind} {y : Sl} {l : List Int} {a b : Nat} (h : RdF B w k y l) (t : Touch a b w w') (h1 : a < B) (h2 : b < B) : RdF B w' k y l :=
 ⟨readsTouchT h.1 t (h.2.imp id fun q d hd => by have := q d hd; omega) (h.2.imp id fun q d hd => by have := q d hd; omega), h.2⟩
theorem liesFTouchT {w w' : World} {B : Nat} {s : Wk} {x : St} {a b : Nat} (h : aQ B w s x) (t : Touch a b w w') (h1 : a < B) (h2 : b < B) : aQ B w' s x :=
 ⟨h.p, iU h.rk t h1 h2, iU h.l0 t h1 h2, iU h.l1 t h1 h2, iU h.l2 t h1 h2, iU h.hl t h1 h2, iU h.rd t h1 h2⟩
theorem reads_tailU {w : World} {b o n cap : Nat} {x : Int} {l : List Int} (h : Reads w .i64 (.slice (some ⟨b, o, none⟩) n cap) (x :: l)) : Reads w .i64 (.slice (some ⟨b, o + 1, none⟩) (n - 1) (cap - 1)) l := by
 obtain ⟨ad, cap', e, h1, h2, h3⟩ := h
 simp only [Value.slice.injEq, List.length_cons] at e
 obtain ⟨rfl, rfl, rfl⟩ := e
 refine ⟨_, _, rfl, by simp at h1; omega, by omega, ?_⟩
 rcases h3 with h3 | ⟨b', off, e2, hb, hc⟩
 ·cases h3
 ·simp only [Option.some.injEq, Addr.mk.injEq, and_true] at e2
  obtain ⟨rfl, rfl⟩ := e2
  exact .inr ⟨b, o + 1, rfl, hb, fun i hi => by
   have := hc (i + 1) qa4g
   rw [show o + 1 + i = o + (i + 1) by omega]
   simpa using this⟩
theorem takeBegin_nil (s : Wk) (x : St) (hx : Few 1000 x) (w : World) (h : aP w s x) (h0 : s.rk.len = 0) : Calls Tryz.prog 153 #[wv s] w fun e w' => ∃ s2, e = .returned (wv s2) ∧ dI w.heap.size w' s2 { x with p := { x.p with ln := 10 } } ∧ Below w.heap.size w w' := by
 have T0 := Two.start w s
 have e10 : ∀ s : Wk, (wc s)[10]? = some (.slice s.rk.ad s.rk.len s.rk.cap) := fun _ => rfl
 have f0 : ∀ s : Wk, (wc s)[0]? = some (.int .i64 s.p.ln) := fun _ => rfl
 have x0 := T0.X.cells
 have hz : (((s.rk.len : Nat) : Int) == 0) = true := qa60
 go_enter Tryz.func153, Tryz.ntmps153
 go_wp2_with (first | ((with_reducible refine au rfl rfl ?_)) | (refine wpList_load_row rfl 46 _ rfl (w.heap.size) rfl _ (wc s) (0, 0) _ bT Tryz.underlying46 rfl ah ?_))
 refine (aW s x hx _ (h.keep T0.below)).mono ?_
 rintro e w1 ⟨s1, rfl, A1, hb1⟩
 have T1 := T0.keep hb1
 have b1 := T1.lt
 have T2 := T1.bO s1
 have hsz : ((w.alloc (.cells (wc s) 46)).alloc (.cells (wc wz) 46)).heap.size = w.heap.size + 2 := aF
 rw [hsz] at A1 hb1
 have A2 := A1.setRow (g := w.heap.size) aj (wc s1)
 obtain ⟨w2, hw2⟩ : ∃ u, u = w1.setRow w.heap.size (wc s1) := ⟨_, rfl⟩
 rw [← hw2] at A2 T2
 have x2 := T2.X.cells
 have z2 := T2.X.frozen
 have e2 : (w2.cell? ⟨w.heap.size, 0, none⟩).isSome = true := by rw [x2, f0]; rfl
 have X3 : Bk (w2.setCell ⟨w.heap.size, 0, none⟩ (.int .i64 10)) w.heap.size (wc ({ s1 with p := { s1.p with ln := 10 } } : Wk)) 46 := T2.X.setCell 0 (.int .i64 10)
 have Z3 := T2.Z.aA (a := ⟨w.heap.size, 0, none⟩) aF (.int .i64 10)
 have A3 := A2.setCell (g := w.heap.size) aj 0 (.int .i64 10)
 have hb3 := T2.below.setCell (p := ⟨w.heap.size, 0, none⟩) (Nat.le_refl _) (.int .i64 10)
 have hp := A1.p
 clear A1 hb1 T0 x0
 go_wp2_with (first | (refine wpList_store_row rfl 46 _ _ rfl (w.heap.size) (wc s1) rfl rfl _ _ dG ah ah ah ?_; rw [← hw2]; clear hw2 T1) | (refine wpList_load_row rfl 46 _ rfl (w.heap.size) rfl _ (wc ({ s1 with p := { s1.p with ln := 10 } } : Wk)) (0, 0) _ qa5p Tryz.underlying46 rfl ah ?_) | (refine wpList_store_row rfl 46 _ _ rfl (w.heap.size + 1) (wc ({ s1 with p := { s1.p with ln := 10 } } : Wk)) rfl rfl _ _ qa5o ah ah ah ?_))
 have ZF := Z3.setRow (wc ({ s1 with p := { s1.p with ln := 10 } } : Wk))
 have A4 := A3.setRow (g := w.heap.size + 1) aj (wc ({ s1 with p := { s1.p with ln := 10 } } : Wk))
 refine bodyPost_ret (v := wv ({ s1 with p := { s1.p with ln := 10 } } : Wk)) ?_ rfl ⟨_, rfl, ⟨by rw [hp], (A4.rk.base aj), (A4.l0.base aj), (A4.l1.base aj), (A4.l2.base aj), (A4.hl.base aj), (A4.rd.base aj)⟩, below_setRow hb3 aj _⟩
 exact results_cell_row (p := 2) (ty := 46) Tryz.results153 _ _ (w.heap.size + 1) 46 _ (0, 0) _ rfl ZF Tryz.underlying46 rfl ah
theorem takeBegin_yes (s : Wk) (x : St) (hx : Few 900 x) (w : World) (h : aP w s x) (hm : x.rk ≠ []) :
  Calls Tryz.prog 153 #[wv s] w fun e w' => ∃ s', e = .returned (wv s') ∧ aQ w.heap.size w' s' { takeS x with p := { (takeS x).p with b := wrap64 (takeB x + 1), ln := 35 } } ∧ Below w.heap.size w w' := by
 have e10 : ∀ s : Wk, (wc s)[10]? = some (.slice s.rk.ad s.rk.len s.rk.cap) := fun _ => rfl
 have f0 : ∀ s : Wk, (wc s)[0]? = some (.int .i64 s.p.ln) := fun _ => rfl
 have f18 : ∀ s : Wk, (wc s)[18]? = some (.int .i64 s.p.b) := fun _ => rfl
 have T0 := Two.start w s
 have x0 := T0.X.cells
 have hl := bI h.rk
 have hpos := List.length_pos_iff.2 hm
 have hz : (((s.rk.len : Nat) : Int) == 0) = false := by rw [hl]; simp; omega
 have HN := Lib.hid (rackTake s x hx _ (h.keep T0.below))
 obtain ⟨kk, hk⟩ : ∃ kk, kk = wrap64 (takeB x + 1) := ⟨_, rfl⟩
 have hk' : IntKind.i64.wrap (takeB x + 1) = kk := (IntWalk.i64_left _).trans hk.symm
 have HK := Lib.hid hk
 clear hl hpos hm hk
 go_enter Tryz.func153, Tryz.ntmps153
 go_wp2_with (first | ((with_reducible refine au rfl rfl ?_)) | (refine wpList_load_row rfl 46 _ rfl (w.heap.size) rfl _ (wc s) (0, 0) _ bT Tryz.underlying46 rfl ah ?_))
 refine HN.out.mono ?_
 rintro e w1 ⟨s1, rfl, L1, hb1⟩
 have T1 := T0.keep hb1
 have b1 := T1.lt
 have T2 := T1.bO s1
 have hsz : ((w.alloc (.cells (wc s) 46)).alloc (.cells (wc wz) 46)).heap.size = w.heap.size + 2 := aF
 rw [hsz] at L1 hb1
 have L2 := L1.setRow (g := w.heap.size) aj (wc s1)
 obtain ⟨w2, hw2⟩ : ∃ u, u = w1.setRow w.heap.size (wc s1) := ⟨_, rfl⟩
 rw [← hw2] at L2 T2
 have x2 := T2.X.cells
 have z2 := T2.X.frozen
 have e2 : (w2.cell? ⟨w.heap.size, 18, none⟩).isSome = true := by rw [x2, f18]; rfl
 have T3 := T2.bZ 18 (.int .i64 kk) ({ s1 with p := { s1.p with b := kk } } : Wk) rfl
 have L3 := L2.setCell (g := w.heap.size) aj 18 (.int .i64 kk)
 have e3 : ((w2.setCell ⟨w.heap.size, 18, none⟩ (.int .i64 kk)).cell? ⟨w.heap.size, 0, none⟩).isSome = true := by rw [T3.X.cells, f0]; rfl
 have T4 := T3.bZ 0 (.int .i64 35) ({ s1 with p := { s1.p with b := kk, ln := 35 } } : Wk) rfl
 have L4 := L3.setCell (g := w.heap.size) aj 0 (.int .i64 35)
 have hp := L1.p
 have HP := Lib.hid hp
 clear L1 hb1 T0 x0 hp
 go_wp2_with (first | (refine wpList_store_row rfl 46 _ _ rfl (w.heap.size) (wc s1) rfl rfl _ _ dG ah ah ah ?_; rw [← hw2]; clear hw2 T1) | (refine wpList_load_row rfl 46 _ rfl (w.heap.size) rfl _ (wc ({ s1 with p := { s1.p with b := kk, ln := 35 } } : Wk)) (0, 0) _ qa4z Tryz.underlying46 rfl ah ?_) | (refine wpList_store_row rfl 46 _ _ rfl (w.heap.size + 1) (wc ({ s1 with p := { s1.p with b := kk, ln := 35 } } : Wk)) rfl rfl _ _ qa50 ah ah ah ?_))
 have T5 := T4.bN ({ s1 with p := { s1.p with b := kk, ln := 35 } } : Wk)
 have L5 := L4.setRow (g := w.heap.size + 1) aj (wc ({ s1 with p := { s1.p with b := kk, ln := 35 } } : Wk))
 refine bodyPost_ret (v := wv ({ s1 with p := { s1.p with b := kk, ln := 35 } } : Wk)) ?_ rfl ⟨_, rfl, ?_, T5.below⟩
 ·exact results_cell_row (p := 2) (ty := 46) Tryz.results153 _ _ (w.heap.size + 1) 46 _ (0, 0) _ rfl T5.Z Tryz.underlying46 rfl ah
 ·exact qa15
theorem takeBeginAny (s : Wk) (x : St) (hx : Few 900 x) (w : World) (h : aP w s x) : Calls Tryz.prog 153 #[wv s] w fun e w' => ∃ s', e = .returned (wv s') ∧ aQ w.heap.size w' s' (tkS x) ∧ Below w.heap.size w w' := by
 unfold tkS
 by_cases hm : x.rk = []
 ·rw [if_pos hm]
  have hl := bI h.rk
  rw [hm] at hl
  exact (takeBegin_nil s x (hx.mono aj) w h hl).mono fun e w' ⟨s2, h1, h2, h3⟩ => ⟨s2, h1, h2.dL, h3⟩
 ·rw [if_neg hm]
  exact takeBegin_yes s x hx w h hm
theorem takeAgain {B n : Nat} {w0 w : World} {g gl cap gx : Nat} {c : Cfg} {a : Acc} {L : List Int} {s : Wk} (h : MX B w0 g gl cap gx c a L s w) (x : St) (hx : Few 900 x) (A : aQ n w s x) (hn : n ≤ w.heap.size) (hg : gx < n) :
  Calls Tryz.prog 225 #[.pointer (some ⟨gx, 0, none⟩)] w (LG B w0 g gl cap gx c n (tkAgain a L x)) := by
 have HS := Lib.hid (takeBeginAny s x hx w A.lies)
 have X0 := h.X
 go_enter Tryz.func225, Tryz.ntmps225
 go_wp2_with (first | (refine wpList_load_row rfl 46 _ rfl (gx) rfl _ (wc s) (0, 0) _ qa5m Tryz.underlying46 rfl ah ?_))
 refine HS.out.mono ?_
 rintro e w1 ⟨s2, rfl, A2, hb1⟩
 have H2 := h.keep hb1
 have sz1 := hb1.size
 have H4 := H2.row s2
 have X3 := H2.X
 have A4 := (A2.base hn).setRow hg (wc s2)
 clear hb1 X0
 go_wp2_with (first | (refine wpList_store_row rfl 46 _ _ rfl (gx) (wc s2) rfl rfl _ _ qa5p ah ah ah ?_))
 go_ret
 exact ⟨s2, rfl, H4, A4⟩
theorem takePop {B n : Nat} {w0 w : World} {g gl cap gx : Nat} {c : Cfg} {a : Acc} {L : List Int} {s : Wk} (h : MX B w0 g gl cap gx c a L s w) (hm : L.length ≤ 1000) (hL : WR L) (hf : c.Wf) (x : St) (hx : Few 800 x) (A : aQ n w s x) (hp : PR x.p) (hn : n ≤ w.heap.size) (hg : gx < n) (hv : PR (aT c a L x.p).fin.p) :
  Calls Tryz.prog 200 #[.pointer (some ⟨g, 0, none⟩), .pointer (some ⟨gx, 0, none⟩)] w (LG B w0 g gl cap gx c n (tkPop c a L x)) := by
 unfold tkPop
 have HS := Lib.hid (fQ h.M hf hm hL s x (hx.mono aj) A.lies hp)
 obtain ⟨r, hr⟩ : ∃ r, r = (aT c a L x.p).fin := ⟨_, rfl⟩
 rw [← hr] at HS hv ⊢
 obtain ⟨ra, rL, rp, rw', rok⟩ := r
 simp only at *
 clear hr
 have X0 := h.X
 have f0 : ∀ s : Wk, (wc s)[0]? = some (.int .i64 s.p.ln) := fun _ => rfl
 have f18 : ∀ s : Wk, (wc s)[18]? = some (.int .i64 s.p.b) := fun _ => rfl
 have f23 : ∀ s : Wk, (wc s)[23]? = some (.int .u64 s.p.h) := fun _ => rfl
 have f25 : ∀ s : Wk, (wc s)[25]? = some (.int .u64 s.p.v) := fun _ => rfl
 have f26 : ∀ s : Wk, (wc s)[26]? = some (.int .u64 s.p.u) := fun _ => rfl
 have f28 : ∀ s : Wk, (wc s)[28]? = some (.int .i64 s.p.j) := fun _ => rfl
 by_cases hw1 : rw' = 1
 ·simp only [if_pos hw1]
  have t1 : (rw' == 1) = true := qa61
  clear hw1
  obtain ⟨kk, hk⟩ : ∃ kk, kk = wrap64 rp.h := ⟨_, rfl⟩
  have hk' : IntKind.i64.wrap rp.h = kk := (IntWalk.i64_left _).trans hk.symm
  rw [← hk]
  clear hk
  go_enter Tryz.func200, Tryz.ntmps200
  go_wp2_with (first | (refine wpList_load_row rfl 46 _ rfl (gx) rfl _ (wc s) (0, 0) _ qa5m Tryz.underlying46 rfl ah ?_))
  refine HS.out.mono ?_
  rintro e w1 ⟨s2, rfl, A2, M2, T2⟩
  have H2 := h.mem M2 T2
  clear X0
  have b3 := bH w1 s2
  have Z3 := dx w1 s2
  have H3 := H2.keep b3
  have A3 := A2.dL.keep b3
  have Y1 : Bk (w1.alloc (.cells (wc wz) 46)) w1.heap.size (wc wz) 46 := Bk.new _ _ _
  have sz3 : n ≤ w1.heap.size := qa5r
  obtain ⟨w3, hw3⟩ : ∃ u, u = (w1.alloc (.cells (wc wz) 46)).setRow w1.heap.size (wc s2) := ⟨_, rfl⟩
  have sz4 : w1.heap.size ≤ w3.heap.size := qa5s
  rw [← hw3] at b3 Z3 H3 A3
  have H4 := H3.row s2
  have X3 := H3.X
  have A4 := (A3.base hn).setRow hg (wc s2)
  obtain ⟨w5, hw5⟩ : ∃ u, u = w3.setRow gx (wc s2) := ⟨_, rfl⟩
  have sz5 : w3.heap.size = w5.heap.size := qa5t
  rw [← hw5] at H4 A4
  have ep := A2.p
  simp only at ep
  clear H2 A2 M2 T2
  have x5 := H4.X.cells
  have z5 := H4.X.frozen
  have q23 : (wc s2)[23]? = some (.int .u64 rp.h) := by rw [f23, ep]
  clear f23
  have e70 : ((w5).cell? ⟨gx, 18, none⟩).isSome = true := by rw [H4.X.cells, f18]; rfl
  have H80 := H4.set (s' := { s2 with p := { s2.p with b := kk } }) 18 (.int .i64 kk) rfl
  have A80 := A4.setCell hg 18 (.int .i64 kk)
  have e71 : (((w5).setCell ⟨gx, 18, none⟩ (.int .i64 kk)).cell? ⟨gx, 0, none⟩).isSome = true := by rw [H80.X.cells, f0]; rfl
  have H81 := H80.set (s' := { s2 with p := { s2.p with b := kk, ln := 35 } }) 0 (.int .i64 35) rfl
  have A81 := A80.setCell hg 0 (.int .i64 35)
  have H9 := H81
  have A9 := A81
  clear H80 A80 H81 A81
  exact qa2q
 simp only [if_neg hw1]
 have t1 : (rw' == 1) = false := qa61
 clear hw1
 by_cases hw2 : rw' = 2
 ·simp only [if_pos hw2]
  have t2 : (rw' == 2) = true := by simp [hw2]
  clear hw2
  obtain ⟨uu, hu⟩ : ∃ uu, uu = rp.v / 4294967296 := ⟨_, rfl⟩
  have HU := Lib.hid (fun w => Pk.unhead rp.v hv.v.1 hv.v.2 w)
  rw [← hu] at HU ⊢
  clear hu
  go_enter Tryz.func200, Tryz.ntmps200
  go_wp2_with (first | (refine wpList_load_row rfl 46 _ rfl (gx) rfl _ (wc s) (0, 0) _ qa5m Tryz.underlying46 rfl ah ?_))
  refine HS.out.mono ?_
  rintro e w1 ⟨s2, rfl, A2, M2, T2⟩
  have H2 := h.mem M2 T2
  clear X0
  have b3 := bH w1 s2
  have Z3 := dx w1 s2
  have H3 := H2.keep b3
  have A3 := A2.dL.keep b3
  have Y1 : Bk (w1.alloc (.cells (wc wz) 46)) w1.heap.size (wc wz) 46 := Bk.new _ _ _
  have sz3 : n ≤ w1.heap.size := qa5r
  obtain ⟨w3, hw3⟩ : ∃ u, u = (w1.alloc (.cells (wc wz) 46)).setRow w1.heap.size (wc s2) := ⟨_, rfl⟩
  have sz4 : w1.heap.size ≤ w3.heap.size := qa5s
  rw [← hw3] at b3 Z3 H3 A3
  have H4 := H3.row s2
  have X3 := H3.X
  have A4 := (A3.base hn).setRow hg (wc s2)
  obtain ⟨w5, hw5⟩ : ∃ u, u = w3.setRow gx (wc s2) := ⟨_, rfl⟩
  have sz5 : w3.heap.size = w5.heap.size := qa5t
  rw [← hw5] at H4 A4
  have ep := A2.p
  simp only at ep
  clear H2 A2 M2 T2
  have x5 := H4.X.cells
  have z5 := H4.X.frozen
  have q25 : (wc s2)[25]? = some (.int .u64 rp.v) := by rw [f25, ep]
  clear f25
  have e70 : ((w5).cell? ⟨gx, 26, none⟩).isSome = true := by rw [H4.X.cells, f26]; rfl
  have H80 := H4.set (s' := { s2 with p := { s2.p with u := uu } }) 26 (.int .u64 uu) rfl
  have A80 := A4.setCell hg 26 (.int .u64 uu)
  have e71 : (((w5).setCell ⟨gx, 26, none⟩ (.int .u64 uu)).cell? ⟨gx, 28, none⟩).isSome = true := by rw [H80.X.cells, f28]; rfl
  have H81 := H80.set (s' := { s2 with p := { s2.p with u := uu, j := 0 } }) 28 (.int .i64 0) rfl
  have A81 := A80.setCell hg 28 (.int .i64 0)
  have e72 : ((((w5).setCell ⟨gx, 26, none⟩ (.int .u64 uu)).setCell ⟨gx, 28, none⟩ (.int .i64 0)).cell? ⟨gx, 0, none⟩).isSome = true := by rw [H81.X.cells, f0]; rfl
  have H82 := H81.set (s' := { s2 with p := { s2.p with u := uu, j := 0, ln := 33 } }) 0 (.int .i64 33) rfl
  have A82 := A81.setCell hg 0 (.int .i64 33)
  have H9 := H82
  have A9 := A82
  clear H80 A80 H81 A81 H82 A82
  have HEP := Lib.hid ep
  clear ep
  go_wp2_with (first | ((with_reducible refine au rfl rfl ?_)) | (refine wpList_store_row rfl 46 _ _ rfl (w1.heap.size) (wc s2) rfl rfl _ _ qa5n ah ah ah ?_; rw [← hw3]; clear hw3 Y1) | (refine wpList_load_row rfl 46 _ rfl (w1.heap.size) rfl _ (wc s2) (0, 0) _ qa5o Tryz.underlying46 rfl ah ?_) | (refine wpList_store_row rfl 46 _ _ rfl (gx) (wc s2) rfl rfl _ _ qa5p ah ah ah ?_; rw [← hw5]; clear hw5 X3))
  refine (HU.out _).mono ?_
  rintro e w6 ⟨rfl, rfl⟩
  go_wp2
  go_ret
  exact ⟨_, rfl, H9, ⟨by rw [HEP.out], A9.rk, A9.l0, A9.l1, A9.l2, A9.hl, A9.rd⟩⟩
 ·simp only [if_neg hw2]
  have t2 : (rw' == 2) = false := by simp [hw2]
  clear hw2
  go_enter Tryz.func200, Tryz.ntmps200
  exact qa16
theorem takePark {B n : Nat} {w0 w : World} {g gl cap gx : Nat} {c : Cfg} {a : Acc} {L : List Int} {s : Wk} (h : MX B w0 g gl cap gx c a L s w) (hm : L.length ≤ 1000) (hL : WR L) (hf : c.Wf) (x : St) (hx : Few 800 x) (A : aQ n w s x) (hp : PR x.p) (hn : n ≤ w.heap.size) (hg : gx < n) :
  Calls Tryz.prog 201 #[.pointer (some ⟨g, 0, none⟩), .pointer (some ⟨gx, 0, none⟩)] w (LG B w0 g gl cap gx c n (tkPark c a L x)) := by
 unfold tkPark
 have HS := Lib.hid (gP h.M hf hm hL s x (hx.mono aj) A.lies hp)
 obtain ⟨r, hr⟩ : ∃ r, r = (fq c a L x.p).fin := ⟨_, rfl⟩
 rw [← hr] at HS ⊢
 obtain ⟨ra, rL, rp, rw', rok⟩ := r
 simp only at *
 clear hr
 have X0 := h.X
 have f0 : ∀ s : Wk, (wc s)[0]? = some (.int .i64 s.p.ln) := fun _ => rfl
 by_cases hw1 : rw' = 1
 ·simp only [if_pos hw1]
  have t1 : (rw' == 1) = true := qa61
  have hx' : Few 900 x := hx.mono aj
  clear hw1
  go_enter Tryz.func201, Tryz.ntmps201
  go_wp2_with (first | (refine wpList_load_row rfl 46 _ rfl (gx) rfl _ (wc s) (0, 0) _ qa5m Tryz.underlying46 rfl ah ?_))
  refine HS.out.mono ?_
  rintro e w1 ⟨s2, rfl, A2, M2, T2⟩
  have H2 := h.mem M2 T2
  clear X0
  have b3 := bH w1 s2
  have Z3 := dx w1 s2
  have H3 := H2.keep b3
  have A3 := A2.dL.keep b3
  have Y1 : Bk (w1.alloc (.cells (wc wz) 46)) w1.heap.size (wc wz) 46 := Bk.new _ _ _
  have sz3 : n ≤ w1.heap.size := qa5r
  obtain ⟨w3, hw3⟩ : ∃ u, u = (w1.alloc (.cells (wc wz) 46)).setRow w1.heap.size (wc s2) := ⟨_, rfl⟩
  have sz4 : w1.heap.size ≤ w3.heap.size := qa5s
  rw [← hw3] at b3 Z3 H3 A3
  have H4 := H3.row s2
  have X3 := H3.X
  have A4 := (A3.base hn).setRow hg (wc s2)
  obtain ⟨w5, hw5⟩ : ∃ u, u = w3.setRow gx (wc s2) := ⟨_, rfl⟩
  have sz5 : w3.heap.size = w5.heap.size := qa5t
  rw [← hw5] at H4 A4
  have ep := A2.p
  simp only at ep
  clear H2 A2 M2 T2
  have HEP := Lib.hid ep
  clear ep
  have HG := Lib.hid (takeAgain H4 { x with p := rp } ⟨hx'.rk, hx'.l0, hx'.l1, hx'.l2, hx'.hl, hx'.rd⟩ A4 aj hg)
  exact qa17
 ·simp only [if_neg hw1]
  have t1 : (rw' == 1) = false := qa61
  clear hw1
  go_enter Tryz.func201, Tryz.ntmps201
  exact qa16
theorem takeInspect {B n : Nat} {w0 w : World} {g gl cap gx : Nat} {c : Cfg} {a : Acc} {L : List Int} {s : Wk} (h : MX B w0 g gl cap gx c a L s w) (hm : L.length ≤ 1000) (hL : WR L) (hf : c.Wf) (x : St) (hx : Few 800 x) (A : aQ n w s x) (hp : PR x.p) (hn : n ≤ w.heap.size) (hg : gx < n) :
  Calls Tryz.prog 203 #[.pointer (some ⟨g, 0, none⟩), .pointer (some ⟨gx, 0, none⟩)] w (LG B w0 g gl cap gx c n (iT c a L x)) := by
 unfold iT
 have HS := Lib.hid (gP h.M hf hm hL s x (hx.mono aj) A.lies hp)
 obtain ⟨r, hr⟩ : ∃ r, r = (fq c a L x.p).fin := ⟨_, rfl⟩
 rw [← hr] at HS ⊢
 obtain ⟨ra, rL, rp, rw', rok⟩ := r
 simp only at *
 clear hr
 have X0 := h.X
 have f0 : ∀ s : Wk, (wc s)[0]? = some (.int .i64 s.p.ln) := fun _ => rfl
 have f18 : ∀ s : Wk, (wc s)[18]? = some (.int .i64 s.p.b) := fun _ => rfl
 have f19 : ∀ s : Wk, (wc s)[19]? = some (.int .i64 s.p.k) := fun _ => rfl
 by_cases hw1 : rw' = 1
 ·simp only [if_pos hw1]
  have t1 : (rw' == 1) = true := qa61
  clear hw1
  go_enter Tryz.func203, Tryz.ntmps203
  exact qa16
 ·simp only [if_neg hw1]
  have t1 : (rw' == 1) = false := qa61
  clear hw1
  go_enter Tryz.func203, Tryz.ntmps203
  go_wp2_with (first | (refine wpList_load_row rfl 46 _ rfl (gx) rfl _ (wc s) (0, 0) _ qa5m Tryz.underlying46 rfl ah ?_))
  refine HS.out.mono ?_
  rintro e w1 ⟨s2, rfl, A2, M2, T2⟩
  have H2 := h.mem M2 T2
  clear X0
  have b3 := bH w1 s2
  have Z3 := dx w1 s2
  have H3 := H2.keep b3
  have A3 := A2.dL.keep b3
  have Y1 : Bk (w1.alloc (.cells (wc wz) 46)) w1.heap.size (wc wz) 46 := Bk.new _ _ _
  have sz3 : n ≤ w1.heap.size := qa5r
  obtain ⟨w3, hw3⟩ : ∃ u, u = (w1.alloc (.cells (wc wz) 46)).setRow w1.heap.size (wc s2) := ⟨_, rfl⟩
  have sz4 : w1.heap.size ≤ w3.heap.size := qa5s
  rw [← hw3] at b3 Z3 H3 A3
  have H4 := H3.row s2
  have X3 := H3.X
  have A4 := (A3.base hn).setRow hg (wc s2)
  obtain ⟨w5, hw5⟩ : ∃ u, u = w3.setRow gx (wc s2) := ⟨_, rfl⟩
  have sz5 : w3.heap.size = w5.heap.size := qa5t
  rw [← hw5] at H4 A4
  have ep := A2.p
  simp only at ep
  clear H2 A2 M2 T2
  have x5 := H4.X.cells
  have z5 := H4.X.frozen
  have q18 : (wc s2)[18]? = some (.int .i64 rp.b) := by rw [f18, ep]
  have e70 : ((w5).cell? ⟨gx, 19, none⟩).isSome = true := by rw [H4.X.cells, f19]; rfl
  have H80 := H4.set (s' := { s2 with p := { s2.p with k := rp.b } }) 19 (.int .i64 rp.b) rfl
  have A80 := A4.setCell hg 19 (.int .i64 rp.b)
  have e71 : (((w5).setCell ⟨gx, 19, none⟩ (.int .i64 rp.b)).cell? ⟨gx, 18, none⟩).isSome = true := by rw [H80.X.cells, f18]; rfl
  have H81 := H80.set (s' := { s2 with p := { s2.p with k := rp.b, b := 0 } }) 18 (.int .i64 0) rfl
  have A81 := A80.setCell hg 18 (.int .i64 0)
  have e72 : ((((w5).setCell ⟨gx, 19, none⟩ (.int .i64 rp.b)).setCell ⟨gx, 18, none⟩ (.int .i64 0)).cell? ⟨gx, 0, none⟩).isSome = true := by rw [H81.X.cells, f0]; rfl
  have H82 := H81.set (s' := { s2 with p := { s2.p with k := rp.b, b := 0, ln := 30 } }) 0 (.int .i64 30) rfl
  have A82 := A81.setCell hg 0 (.int .i64 30)
  have H9 := H82
  have A9 := A82
  clear H80 A80 H81 A81 H82 A82
  clear f18
  exact qa2q
theorem takeRecheck {B n : Nat} {w0 w : World} {g gl cap gx : Nat} {c : Cfg} {a : Acc} {L : List Int} {s : Wk} (h : MX B w0 g gl cap gx c a L s w) (hm : L.length ≤ 1000) (hL : WR L) (hf : c.Wf) (x : St) (hx : Few 800 x) (A : aQ n w s x) (hp : PR x.p) (hn : n ≤ w.heap.size) (hg : gx < n) (h3 : g < n) (h4 : gl < n) :
  Calls Tryz.prog 204 #[.pointer (some ⟨g, 0, none⟩), .pointer (some ⟨gx, 0, none⟩)] w (LG B w0 g gl cap gx c n (iR c a L x)) := by
 unfold iR
 have HLD := Lib.hid (bF h.M hm 1)
 have hvr : 0 ≤ ldV L 1 ∧ ldV L 1 < 18446744073709551616 := dP hL 1
 obtain ⟨V, hV⟩ : ∃ V, V = ldV L 1 := ⟨_, rfl⟩
 rw [← hV] at HLD hvr ⊢
 have HU := Lib.hid (fun w => Pk.unhead V hvr.1 hvr.2 w)
 have hx' : Few 900 x := hx.mono aj
 have ep := A.p
 have f26 : ∀ s : Wk, (wc s)[26]? = some (.int .u64 s.p.u) := fun _ => rfl
 clear hV
 by_cases ht : V % 4294967296 - 1 < 0
 ·have t1 : decide (V % 4294967296 - 1 < 0) = true := by simp only [decide_eq_true_eq]; exact ht
  by_cases hu : V / 4294967296 = x.p.u
  ·rw [if_pos ⟨ht, hu⟩]
   have t2 : (V / 4294967296 == x.p.u) = true := by simp [hu]
   clear ht hu hvr
   go_enter Tryz.func204, Tryz.ntmps204
   go_wp2_with fail
   refine HLD.out.mono ?_
   rintro e w1 ⟨rfl, M1, T1⟩
   have H1 := h.mem M1 T1
   have A1 := liesFTouchT A T1 h3 h4
   go_wp2_with fail
   refine (HU.out _).mono ?_
   rintro e w2 ⟨rfl, rfl⟩
   have y26 : w1.cell? ⟨gx, 26, none⟩ = some (.int .u64 x.p.u) := by rw [H1.X.cells, f26, ep]
   have lx := H1.X.lt
   clear ep
   go_wp2
   go_ret
   exact ⟨s, rfl, H1, A1⟩
  ·rw [if_neg (fun q => hu q.2)]
   have t2 : (V / 4294967296 == x.p.u) = false := by simp [hu]
   clear ht hu hvr
   go_enter Tryz.func204, Tryz.ntmps204
   go_wp2_with fail
   refine HLD.out.mono ?_
   rintro e w1 ⟨rfl, M1, T1⟩
   have H1 := h.mem M1 T1
   have A1 := liesFTouchT A T1 h3 h4
   go_wp2_with fail
   refine (HU.out _).mono ?_
   rintro e w2 ⟨rfl, rfl⟩
   have y26 : w1.cell? ⟨gx, 26, none⟩ = some (.int .u64 x.p.u) := by rw [H1.X.cells, f26, ep]
   have lx := H1.X.lt
   exact qa2r
 ·rw [if_neg (fun q => ht q.1)]
  have t1 : decide (V % 4294967296 - 1 < 0) = false := by simp only [decide_eq_false_iff_not]; exact ht
  clear ht hvr
  go_enter Tryz.func204, Tryz.ntmps204
  go_wp2_with fail
  refine HLD.out.mono ?_
  rintro e w1 ⟨rfl, M1, T1⟩
  have H1 := h.mem M1 T1
  have A1 := liesFTouchT A T1 h3 h4
  go_wp2_with fail
  refine (HU.out _).mono ?_
  rintro e w2 ⟨rfl, rfl⟩
  exact qa2r
theorem new_oneT (w : World) (v : Value) (t : TypeId) : (w.alloc (.cells #[v] t)).cell? ⟨w.heap.size, 0, none⟩ = some v := by
 rw [cell_of_row _ _ _ #[v] t (0, 0) (heap_alloc_new w _)]; rfl
theorem own_oneT {B n : Nat} {w : World} {t : TypeId} {y : Sl} {L : List Int} {b : Int} (h : w.ownsRow B t 1 y.v (n + 1) ((L ++ [b]).map (.int .i64))) : bD B w .i64 t y (L ++ [b]) := by
 have e : n + 1 = (L ++ [b]).length := by have := h.1; simpa using this.symm
 unfold bD
 rw [← e]
 exact h
theorem bsOf_len (c : Cfg) (j : Int) : (bsOf c j).length = c.bl.toNat := by unfold bsOf; simp
theorem takeBlocks (c : Cfg) (hb1 : 1 ≤ c.bl) (hb2 : c.bl ≤ 100) (j : Int) (w : World) : Calls Tryz.prog 226 #[cv c, .int .i64 j] w fun e w' => ∃ y : Sl, e = .returned y.v ∧ bD w.heap.size w' .i64 3 y (bsOf c j) ∧ Below w.heap.size w w' := by
 have P0 := Bk.new w (ccM c) 86
 have hw0 : Below w.heap.size w (w.alloc (.cells (ccM c) 86)) := (Below.refl _ _).alloc (Nat.le_refl _) _
 have x0 := P0.cells
 obtain ⟨N, hN⟩ : ∃ N : Nat, (N : Int) = c.bl := ⟨c.bl.toNat, by omega⟩
 have hN1 : 1 ≤ N ∧ N ≤ 100 := aj
 have c2 : (w.alloc (.cells (ccM c) 86)).cell? ⟨w.heap.size, 2, none⟩ = some (.int .i64 (N : Int)) := by rw [x0, hN]; rfl
 have HN := Lib.hid hN
 obtain ⟨jb, hjb⟩ : ∃ jb, jb = wrap64 (j * c.bl) := ⟨_, rfl⟩
 have hjb' : IntKind.i64.wrap (j * (N : Int)) = jb := by rw [hjb, hN]; exact IntWalk.i64_left _
 unfold bsOf
 rw [← hjb, show c.bl.toNat = N by omega]
 clear hN hjb x0 hb1 hb2
 go_enter Tryz.func226, Tryz.ntmps226
 go_wp2
 clear c2
 go_loopw [5, 10] (fun l i wr => ∃ (k : Nat) (y : Sl), k ≤ N ∧ l = .slice y.ad y.len y.cap ∧ i = .int .i64 k ∧ bD w.heap.size wr .i64 3 y ((List.range k).map fun i => wrap64 (jb + ((i : Nat) : Int))) ∧ Bk wr w.heap.size (ccM c) 86 ∧ Below w.heap.size w wr) (fun _ i _ => N - (intOf i).toNat)
 case atStart => exact ⟨0, aG, by omega, rfl, rfl, bD.nil, P0, hw0⟩
 case round =>
  clear P0 hw0
  obtain ⟨k, y, hk, rfl, rfl, O, P, hw⟩ := hrel
  have hlo := bI O.reads
  simp only [List.length_map, List.length_range] at hlo
  by_cases hlt : k < N
  ·have hd : decide ((k : Int) < (N : Int)) = true := by simp; omega
   have hsum : IntKind.i64.wrap ((k : Int) + 1) = (k : Int) + 1 := IntWalk.i64_in _ aj
   obtain ⟨v, hv⟩ : ∃ v, v = wrap64 (jb + (k : Int)) := ⟨_, rfl⟩
   have hv' : IntKind.i64.wrap (jb + (k : Int)) = v := (IntWalk.i64_left _).trans hv.symm
   have HV := Lib.hid hv
   have c2 : wr.cell? ⟨w.heap.size, 2, none⟩ = some (.int .i64 (N : Int)) := by rw [P.cells, HN.out]; rfl
   have lp := P.lt
   clear hv
   go_wp2_with (first | (at_builtin; (refine append_one elemI rfl _ _ rfl w.heap.size _ _ _ rfl (World.ownsRow.alloc O _) _ _ v rfl (new_oneT _ _ _) (by first | omega | (simp; omega)) (by first | (have := P.lt; omega) | (have := P.lt; simp; omega)) ?_; intro y2 w2 r2 hb2 hk2; have P2 := hk2 _ _ _ aL (P.keep ((Below.refl _ _).alloc (Nat.le_refl _) _)); have hw2 := (hw.trans (((Below.refl _ _).alloc (Nat.le_refl _) _).mono hw.size)).trans hb2; have O2 := own_oneT r2)))
   go_roundw
   case rel => exact ⟨k + 1, y2, by omega, rfl, by go_num, by rw [List.range_succ, List.map_append]; simp only [List.map_cons, List.map_nil]; rw [← HV.out]; exact O2, P2, hw2⟩
   case measure => simp [intOf]; omega
  ·obtain rfl : k = N := by omega
   go_wp2
   go_ret
   exact ⟨y, rfl, O, hw⟩
theorem reads_tailT {w : World} {b o cap : Nat} {x : Int} {l : List Int} (h : Reads w .i64 (.slice (some ⟨b, o, none⟩) (l.length + 1) cap) (x :: l)) : Reads w .i64 (.slice (if cap = 1 then some ⟨b, o, none⟩ else some ⟨b, o + 1, none⟩) l.length (cap - 1)) l := by
 have ht := reads_tailU h
 split
 ·rename_i hc
  subst hc
  obtain ⟨ad, cap', e, h1, h2, h3⟩ := h
  simp only [Value.slice.injEq, List.length_cons] at e
  obtain ⟨rfl, _, rfl⟩ := e
  have hl : l = [] := by cases l with
   | nil => rfl
   | cons a t => simp at h1
  subst hl
  exact ⟨_, 0, rfl, Nat.le_refl _, Nat.zero_le _, .inl rfl⟩
 ·exact ht
theorem reads_cellT {w : World} {k : IntKind} {x : Sl} {l : List Int} (h : Reads w k x.v l) {i : Nat} (hi : i < l.length) : ∃ b off, x.ad = some ⟨b, off, none⟩ ∧ b < w.heap.size ∧ w.cell? ⟨b, off + i, none⟩ = some (.int k l[i]) := qa25
theorem own_blkT {B n : Nat} {w : World} {t : TypeId} {y : Sl} {xs : List Value} (h : w.ownsRow B t 1 y.v n xs) : ∀ d, y.ad = some d → B ≤ d.block ∧ d.block < w.heap.size := by
 intro d hd
 rcases h.2 with ⟨h0, _⟩ | ⟨g, cap, cur, h0, _⟩
 ·obtain ⟨ya, yl, yc⟩ := y
  simp only [Sl.v, Value.slice.injEq] at h0
  rw [h0.1] at hd
  cases hd
 ·have := World.ownsRow.lt h g (by rw [h0]; rfl)
  obtain ⟨ya, yl, yc⟩ := y
  simp only [Sl.v, Value.slice.injEq] at h0
  rw [h0.1] at hd
  simp only [Option.some.injEq] at hd
  subst hd
  exact this
theorem reads_setT {w : World} {k : IntKind} {x : Sl} {l : List Int} (h : Reads w k x.v l) {g : Nat} (hx : ∀ d, x.ad = some d → d.block ≠ g) (j : Nat) (z : Value) : Reads (w.setCell ⟨g, j, none⟩ z) k x.v l := by
 obtain ⟨ad, cap, he, h1, h2, h3⟩ := h
 refine ⟨ad, cap, he, h1, h2, ?_⟩
 rcases h3 with h3 | ⟨b, off, e2, hlt, hc⟩
 ·exact .inl h3
 ·simp only [Sl.v, Value.slice.injEq] at he
  have hne : b ≠ g := hx _ (he.1.trans e2)
  exact qa2s
theorem takeClaim {B n : Nat} {w0 w : World} {g gl cap gx : Nat} {c : Cfg} {a : Acc} {L : List Int} {s : Wk} (h : MX B w0 g gl cap gx c a L s w) (hm : L.length ≤ 1000) (hL : WR L) (hf : c.Wf) (x : St) (hx : Few 800 x) (A : aQ n w s x) (hp : PR x.p) (hn : n ≤ w.heap.size) (hg : gx < n) (hb1 : 1 ≤ c.bl) (hb2 : c.bl ≤ 100) :
  Calls Tryz.prog 202 #[.pointer (some ⟨g, 0, none⟩), .pointer (some ⟨gx, 0, none⟩)] w (LG B w0 g gl cap gx c n (tkClaim c a L x)) := by
 unfold tkClaim
 have HS := Lib.hid (gP h.M hf hm hL s x (hx.mono aj) A.lies hp)
 obtain ⟨r, hr⟩ : ∃ r, r = (fq c a L x.p).fin := ⟨_, rfl⟩
 rw [← hr] at HS ⊢
 obtain ⟨ra, rL, rp, rw', rok⟩ := r
 simp only at *
 clear hr
 have X0 := h.X
 have f0 : ∀ s : Wk, (wc s)[0]? = some (.int .i64 s.p.ln) := fun _ => rfl
 have f18 : ∀ s : Wk, (wc s)[18]? = some (.int .i64 s.p.b) := fun _ => rfl
 have f28 : ∀ s : Wk, (wc s)[28]? = some (.int .i64 s.p.j) := fun _ => rfl
 have hx9 : Few 900 x := hx.mono aj
 by_cases hw1 : rw' = 1
 ·simp only [if_pos hw1]
  have t1 : (rw' == 1) = true := qa61
  have hlen := bsOf_len c rp.j
  obtain ⟨L9, hL9⟩ : ∃ l, l = bsOf c rp.j := ⟨_, rfl⟩
  have HBL := Lib.hid (fun w => takeBlocks c hb1 hb2 rp.j w)
  rw [← hL9] at hlen HBL ⊢
  obtain ⟨b0, tl, rfl⟩ : ∃ b0 tl, L9 = b0 :: tl := by
   cases L9 with
   | nil => simp at hlen; omega
   | cons b t => exact ⟨b, t, rfl⟩
  simp only [List.headD_cons, List.tail_cons, List.length_cons] at *
  have htl : tl.length ≤ 100 := aj
  obtain ⟨kk, hk⟩ : ∃ kk, kk = wrap64 (b0 + 1) := ⟨_, rfl⟩
  have hk' : IntKind.i64.wrap (b0 + 1) = kk := (IntWalk.i64_left _).trans hk.symm
  rw [← hk]
  clear hk hw1 hlen hL9
  go_enter Tryz.func202, Tryz.ntmps202
  go_wp2_with (first | (refine wpList_load_row rfl 46 _ rfl (gx) rfl _ (wc s) (0, 0) _ qa5m Tryz.underlying46 rfl ah ?_))
  refine HS.out.mono ?_
  rintro e w1 ⟨s2, rfl, A2, M2, T2⟩
  have H2 := h.mem M2 T2
  clear X0
  have b3 := bH w1 s2
  have Z3 := dx w1 s2
  have H3 := H2.keep b3
  have A3 := A2.dL.keep b3
  have Y1 : Bk (w1.alloc (.cells (wc wz) 46)) w1.heap.size (wc wz) 46 := Bk.new _ _ _
  have sz3 : n ≤ w1.heap.size := qa5r
  obtain ⟨w3, hw3⟩ : ∃ u, u = (w1.alloc (.cells (wc wz) 46)).setRow w1.heap.size (wc s2) := ⟨_, rfl⟩
  have sz4 : w1.heap.size ≤ w3.heap.size := qa5s
  rw [← hw3] at b3 Z3 H3 A3
  have H4 := H3.row s2
  have X3 := H3.X
  have A4 := (A3.base hn).setRow hg (wc s2)
  obtain ⟨w5, hw5⟩ : ∃ u, u = w3.setRow gx (wc s2) := ⟨_, rfl⟩
  have sz5 : w3.heap.size = w5.heap.size := qa5t
  rw [← hw5] at H4 A4
  have ep := A2.p
  simp only at ep
  clear H2 A2 M2 T2
  have q28 : (wc s2)[28]? = some (.int .i64 rp.j) := by rw [f28, ep]
  clear f28
  have HEP := Lib.hid ep
  clear ep
  go_wp2_with (first | ((with_reducible refine au rfl rfl ?_)) | (refine wpList_store_row rfl 46 _ _ rfl (w1.heap.size) (wc s2) rfl rfl _ _ qa5n ah ah ah ?_; rw [← hw3]; clear hw3 Y1) | (refine wpList_load_row rfl 46 _ rfl (w1.heap.size) rfl _ (wc s2) (0, 0) _ qa5o Tryz.underlying46 rfl ah ?_) | (refine wpList_store_row rfl 46 _ _ rfl (gx) (wc s2) rfl rfl _ _ qa5p ah ah ah ?_; rw [← hw5]; clear hw5 X3))
  have hS0 : Below w5.heap.size w5 w5.drew := Below.drew (Below.refl _ _)
  refine wp_region_held_drew (S := fun w' => Below w5.heap.size w5 w') ah hS0 (fun hHeld => ?_)
  generalize w5.drew = z0 at *
  refine jT 0 (.pointer (some ⟨g, 0, none⟩)) rfl hHeld ?_
  try simp only [Act.put, jP]
  refine jT 1 (.pointer (some ⟨g, 0, none⟩)) rfl hHeld ?_
  try simp only [Act.put, jP]
  refine jT 2 (.pointer (some ⟨g, 0, none⟩)) rfl hHeld ?_
  try simp only [Act.put, jP]
  refine jY 3 (cv c) rfl (Or.inl ⟨by rfl, fun w' hSw => by have xx := (H4.keep hSw).M.B.cells; go_simp⟩) hHeld ?_
  try simp only [Act.put, jP]
  refine jT 4 (.pointer (some ⟨gx, 0, none⟩)) rfl hHeld ?_
  try simp only [Act.put, jP]
  refine jT 5 (.pointer (some ⟨gx, 0, none⟩)) rfl hHeld ?_
  try simp only [Act.put, jP]
  refine jT 6 (.pointer (some ⟨gx, 28, none⟩)) rfl hHeld ?_
  try simp only [Act.put, jP]
  refine jY 7 (.int .i64 rp.j) rfl (Or.inl ⟨by rfl, fun w' hSw => by have xx := (H4.keep hSw).X.cells; go_simp⟩) hHeld ?_
  try simp only [Act.put, jP]
  have gz0 := hHeld.size
  refine jR [8] ?_
  refine jC rfl (fun K hK => ?_) jN
  go_simp
  refine (HBL.out _).mono ?_
  rintro e z1 ⟨⟨qa, ql, cq⟩, rfl, hown, hb⟩
  have hq1 := hown.reads
  have hqb := own_blkT hown
  obtain ⟨gq, oq, hqa, hqlt, hq0⟩ := reads_cellT hq1 (i := 0) aF
  have hql := bI hq1
  simp only [List.length_cons, List.getElem_cons_zero, Nat.add_zero] at hqa hql hq0
  subst hqa hql
  have hqg := (hqb _ rfl).1
  simp only at hqg
  have dH := hHeld.trans (hb.mono hHeld.size)
  refine hK.out _ _ dH (fun hHeld => ?_)
  clear hK K dH hqb hown
  try simp only [Act.put, jP]
  refine jT 9 (.slice (some ⟨gq, oq, none⟩) (tl.length + 1) cq) rfl hHeld ?_
  try simp only [Act.put, jP]
  refine wpAnyH_done ah ?_ _
  have H5 := H4.keep hHeld
  have A5 := A4.keep hHeld
  have gz := hHeld.size
  have x5 := H5.X.cells
  have z5 := H5.X.frozen
  have e5 : (z1.cell? ⟨gx, 18, none⟩).isSome = true := by rw [x5, f18]; rfl
  have H6 := H5.set (s' := { s2 with p := { s2.p with b := kk } }) 18 (.int .i64 kk) rfl
  have A6 := A5.setCell hg 18 (.int .i64 kk)
  have hgn : gq ≠ gx := by have := hb.size; have := H4.lt; omega
  have rq := reads_setT hq1 (g := gx) (fun d hd => by simp only [Option.some.injEq] at hd; subst hd; exact hgn) 18 (.int .i64 kk)
  simp only [Sl.v] at rq
  obtain ⟨z6, hz6⟩ : ∃ u, u = z1.setCell ⟨gx, 18, none⟩ (.int .i64 kk) := ⟨_, rfl⟩
  have gz6 : z1.heap.size = z6.heap.size := by rw [hz6]; simp
  rw [← hz6] at H6 A6 rq
  have AE : aQ n z6 ({ s2 with p := { s2.p with b := kk } } : Wk) { x with p := { rp with b := kk } } := ⟨by rw [HEP.out], A6.rk, A6.l0, A6.l1, A6.l2, A6.hl, A6.rd⟩
  have rt := reads_tailT rq
  obtain ⟨t, ht⟩ : ∃ t : Wk, t = { s2 with p := { s2.p with b := kk } } := ⟨_, rfl⟩
  rw [← ht] at H6 AE
  have HZ6 := Lib.hid hz6
  have hln : (0 : Int) < (tl.length : Int) + 1 := aj
  have hbn : ((tl.length : Int) + 1 < 1) = False := bq
  clear hHeld hS0 hb H5 A5 A6 hz6 ht hq1 rq HBL
  go_wp2_with (first | (rw [← HZ6.out]; clear HZ6 x5 z5 e5 hq0))
  have F6 := H6.keep (w' := z6.drew) (Below.drew (Below.refl _ _))
  have AF := AE.keep (w' := z6.drew) (Below.drew (Below.refl _ _))
  have rf := rt.keep (w' := z6.drew) (Below.drew (Below.refl _ _))
  have sz7 : n ≤ z6.drew.heap.size := by have := (Below.drew (Below.refl z6.heap.size z6)).size; omega
  refine wp_region_held_drew (S := fun _ => True) ah trivial (fun hHeld => ?_)
  obtain ⟨v9, hv9⟩ : ∃ u, u = z6.drew := ⟨_, rfl⟩
  rw [← hv9] at F6 AF rf sz7 ⊢
  clear hv9 H6 AE rt
  refine jT 0 (.pointer (some ⟨gx, 0, none⟩)) rfl hHeld ?_
  try simp only [Act.put, jP]
  refine jT 1 (.pointer (some ⟨gx, 0, none⟩)) rfl hHeld ?_
  try simp only [Act.put, jP]
  refine jT 2 (.pointer (some ⟨gx, 0, none⟩)) rfl hHeld ?_
  try simp only [Act.put, jP]
  refine jT 4 (.slice (some ⟨gq, oq, none⟩) (tl.length + 1) cq) rfl hHeld ?_
  try simp only [Act.put, jP]
  refine jT 5 (.slice (if cq = 1 then some ⟨gq, oq, none⟩ else some ⟨gq, oq + 1, none⟩) tl.length (cq - 1)) rfl hHeld ?_
  try simp only [Act.put, jP]
  refine jR [3] ?_
  refine jC rfl (fun K hK => ?_) jN
  refine iX rfl 46 _ rfl gx rfl (wc t) 46 _ F6.X Tryz.underlying46 rfl ah ?_
  refine hK.out _ _ trivial (fun hHeld => ?_)
  clear hK K
  try simp only [Act.put, jP]
  refine jR [6] ?_
  refine jC rfl (fun K hK => ?_) jN
  go_simp
  refine (dF t { x with p := { rp with b := kk } } ⟨hx9.rk, hx9.l0, hx9.l1, hx9.l2, hx9.hl, hx9.rd⟩ ⟨if cq = 1 then some ⟨gq, oq, none⟩ else some ⟨gq, oq + 1, none⟩, tl.length, cq - 1⟩ tl aj v9 AF.lies rf).mono ?_
  rintro e v10 ⟨t2, rfl, ⟨L2, -⟩, hb⟩
  refine hK.out _ _ trivial (fun hHeld => ?_)
  clear hK K
  try simp only [Act.put, jP]
  refine jT 7 (.pointer (some ⟨gx, 0, none⟩)) rfl hHeld ?_
  try simp only [Act.put, jP]
  have F7 := F6.keep hb
  have F8 := F7.row t2
  have PA : aQ n (v10.setRow gx (wc t2)) t2 (holdS { x with p := { rp with b := kk } } tl) := (L2.base sz7).setRow hg (wc t2)
  refine jR [8] ?_
  refine jC rfl (fun K hK => ?_) jN
  refine dh rfl 46 _ _ rfl gx (wc t2) rfl rfl _ _ (by exact F7.X) ah ah ah ?_
  refine hK.out _ _ trivial (fun hHeld => ?_)
  clear hK K
  refine wpAnyH_done ah ?_ _
  clear F7 F6 AF rf hb L2
  go_wp2
  all_goals (go_ret; exact ⟨t2, rfl, F8, PA⟩)
 simp only [if_neg hw1]
 have t1 : (rw' == 1) = false := qa61
 clear hw1
 by_cases hw2 : rw' = 2
 ·simp only [if_pos hw2]
  have t2 : (rw' == 2) = true := by simp [hw2]
  clear hw2
  go_enter Tryz.func202, Tryz.ntmps202
  go_wp2_with (first | (refine wpList_load_row rfl 46 _ rfl (gx) rfl _ (wc s) (0, 0) _ qa5m Tryz.underlying46 rfl ah ?_))
  refine HS.out.mono ?_
  rintro e w1 ⟨s2, rfl, A2, M2, T2⟩
  have H2 := h.mem M2 T2
  clear X0
  have b3 := bH w1 s2
  have Z3 := dx w1 s2
  have H3 := H2.keep b3
  have A3 := A2.dL.keep b3
  have Y1 : Bk (w1.alloc (.cells (wc wz) 46)) w1.heap.size (wc wz) 46 := Bk.new _ _ _
  have sz3 : n ≤ w1.heap.size := qa5r
  obtain ⟨w3, hw3⟩ : ∃ u, u = (w1.alloc (.cells (wc wz) 46)).setRow w1.heap.size (wc s2) := ⟨_, rfl⟩
  have sz4 : w1.heap.size ≤ w3.heap.size := qa5s
  rw [← hw3] at b3 Z3 H3 A3
  have H4 := H3.row s2
  have X3 := H3.X
  have A4 := (A3.base hn).setRow hg (wc s2)
  obtain ⟨w5, hw5⟩ : ∃ u, u = w3.setRow gx (wc s2) := ⟨_, rfl⟩
  have sz5 : w3.heap.size = w5.heap.size := qa5t
  rw [← hw5] at H4 A4
  have ep := A2.p
  simp only at ep
  clear H2 A2 M2 T2
  have x5 := H4.X.cells
  have z5 := H4.X.frozen
  have e70 : ((w5).cell? ⟨gx, 0, none⟩).isSome = true := qa5h
  have H80 := H4.set (s' := { s2 with p := { s2.p with ln := 38 } }) 0 (.int .i64 38) rfl
  have A80 := A4.setCell hg 0 (.int .i64 38)
  have H9 := H80
  have A9 := A80
  clear H80 A80
  exact qa2q
 ·simp only [if_neg hw2]
  have t2 : (rw' == 2) = false := by simp [hw2]
  clear hw2
  go_enter Tryz.func202, Tryz.ntmps202
  exact qa16
end Go.Proofs.YtaiodbcnbcdokaaGreat.Me
namespace Go.Proofs.YtaiodbcnbcdokaaGreat.Me
open Go Go.RowKit Gro Own Wd Ap Go.Proofs.YtaiodbcnbcdokaaGreat.Pl Wo
def LGt (B : Nat) (w0 : World) (g gl cap gx : Nat) (c : Cfg) (n : Nat) (r : Rs) (e : Ending) (w' : World) : Prop := ∃ s3 : Wk, e = .returned (.tuple #[.int .i64 r.way, .bool r.ok]) ∧ MX B w0 g gl cap gx c r.a r.L s3 w' ∧ aQ n w' s3 r.x
def eB (r : Rs) : Rs := if r.way = 0 then r else { r with x := { r.x with p := { r.x.p with ln := 0 } } }
theorem tkPop_ok (c : Cfg) (a : Acc) (L : List Int) (x : St) : (tkPop c a L x).ok = true := rfl
theorem tkPark_ok (c : Cfg) (a : Acc) (L : List Int) (x : St) : (tkPark c a L x).ok = true := by
 unfold tkPark tkAgain
 simp only
 split <;> rfl
theorem tkClaim_ok (c : Cfg) (a : Acc) (L : List Int) (x : St) : (tkClaim c a L x).ok = true := by
 unfold tkClaim
 simp only
 split <;> rfl
theorem tkInspect_ok (c : Cfg) (a : Acc) (L : List Int) (x : St) : (iT c a L x).ok = true := by
 unfold iT
 simp only
 split <;> rfl
theorem tkRecheck_ok (c : Cfg) (a : Acc) (L : List Int) (x : St) : (iR c a L x).ok = true := by
 unfold iR tkAgain
 split <;> rfl
theorem takeLine {B n : Nat} {w0 w : World} {g gl cap gx : Nat} {c : Cfg} {a : Acc} {L : List Int} {s : Wk} (h : MX B w0 g gl cap gx c a L s w) (hm : L.length ≤ 1000) (hL : WR L) (hf : c.Wf) (x : St) (hx : Few 800 x) (A : aQ n w s x) (hp : PR x.p) (hn : n ≤ w.heap.size) (hg : gx < n) (hv : PR (aT c a L x.p).fin.p) (hb1 : 1 ≤ c.bl) (hb2 : c.bl ≤ 100) (h3 : g < n) (h4 : gl < n) :
  Calls Tryz.prog 168 #[.pointer (some ⟨g, 0, none⟩), .pointer (some ⟨gx, 0, none⟩)] w (LGt B w0 g gl cap gx c n (dD c a L x)) := by
 have X0 := h.X
 have x0 := X0.cells
 have f0 : ∀ s : Wk, (wc s)[0]? = some (.int .i64 s.p.ln) := fun _ => rfl
 have ex := A.p
 have lx := h.X.lt
 obtain ⟨ln, hln⟩ : ∃ k, k = x.p.ln := ⟨_, rfl⟩
 have q0 : (wc s)[0]? = some (.int .i64 ln) := by rw [f0, ex, hln]
 unfold dD
 rw [← hln]
 clear f0 ex hln
 by_cases hPop : ln = 10 ∨ ln = 11 ∨ ln = 12
 ·rw [if_pos hPop]
  rcases hPop with hl | hl | hl
  ·exact qa2t
  ·exact qa2t
  ·exact qa2t
 rw [if_neg hPop]
 by_cases hPark : ln = 30 ∨ ln = 31 ∨ ln = 32
 ·rw [if_pos hPark]
  rcases hPark with hl | hl | hl
  ·exact qa2u
  ·exact qa2u
  ·exact qa2u
 rw [if_neg hPark]
 by_cases hClaim : ln = 33 ∨ ln = 34
 ·rw [if_pos hClaim]
  rcases hClaim with hl | hl
  subst hl
  rotate_left
  subst hl
  rotate_left
  all_goals
   have HG := Lib.hid (takeClaim h hm hL hf x hx A hp hn hg hb1 hb2)
   have HOK := Lib.hid (tkClaim_ok c a L x)
   clear h A
   go_enter Tryz.func168, Tryz.ntmps168
   go_wp2_with fail
   refine HG.out.mono ?_
   rintro e w1 ⟨s3, rfl, H3, A3⟩
   go_wp2
   go_ret2
   exact ⟨s3, by rw [HOK.out]; rfl, H3, A3⟩
 rw [if_neg hClaim]
 by_cases hInspect : ln = 35
 ·rw [if_pos hInspect]
  have hl := hInspect
  subst hl
  have HG := Lib.hid (takeInspect h hm hL hf x hx A hp hn hg)
  have HOK := Lib.hid (tkInspect_ok c a L x)
  exact qa2v
 rw [if_neg hInspect]
 by_cases hRecheck : ln = 38
 ·rw [if_pos hRecheck]
  have hl := hRecheck
  subst hl
  have HG := Lib.hid (takeRecheck h hm hL hf x hx A hp hn hg h3 h4)
  have HOK := Lib.hid (tkRecheck_ok c a L x)
  exact qa2v
 rw [if_neg hRecheck]
 have t10 : (ln == 10) = false := bq
 have t11 : (ln == 11) = false := bq
 have t12 : (ln == 12) = false := bq
 have t30 : (ln == 30) = false := bq
 have t31 : (ln == 31) = false := bq
 have t32 : (ln == 32) = false := bq
 have t33 : (ln == 33) = false := bq
 have t34 : (ln == 34) = false := bq
 have t35 : (ln == 35) = false := bq
 have t38 : (ln == 38) = false := bq
 clear hPop hPark hClaim hInspect hRecheck
 go_enter Tryz.func168, Tryz.ntmps168
 go_wp2
 go_ret2
 exact ⟨s, rfl, h, A⟩
theorem takeStepAny {B : Nat} {w : World} {g gl cap : Nat} {c : Cfg} {a : Acc} {L : List Int} (M : aC B w g c a gl cap L) (hf : c.Wf) (hm : L.length ≤ 1000) (hL : WR L) (s : Wk) (x : St) (hx : Few 800 x) (h : aP w s x) (hp : PR x.p) (hbA : 1 ≤ c.bl) (hbB : c.bl ≤ 100) :
  Calls Tryz.prog 145 #[.pointer (some ⟨g, 0, none⟩), wv s] w (GS B g gl cap c (eB (dD c a L x)) w) := by
 have T0 := Two.start w s
 have mlt := M.lt
 obtain ⟨R, hR⟩ : ∃ R, R = dD c a L x := ⟨_, rfl⟩
 rw [← hR]
 have HR := Lib.hid hR
 clear hR
 obtain ⟨R', hR'⟩ : ∃ R', R' = eB R := ⟨_, rfl⟩
 rw [← hR']
 have HR' := Lib.hid hR'
 clear hR'
 go_enter Tryz.func145, Tryz.ntmps145
 go_wp2_with (first | ((with_reducible refine au rfl rfl ?_)) | (refine wpList_load_row rfl 46 _ rfl (w.heap.size) rfl _ (wc s) (0, 0) _ bT Tryz.underlying46 rfl ah ?_))
 refine (aW s x (hx.mono aj) _ (h.keep T0.below)).mono ?_
 rintro e w1 ⟨s1, rfl, A1, hb1⟩
 have T1 := T0.keep hb1
 have b1 := T1.lt
 have T2 := T1.bO s1
 have hsz : ((w.alloc (.cells (wc s) 46)).alloc (.cells (wc wz) 46)).heap.size = w.heap.size + 2 := aF
 rw [hsz] at A1 hb1
 have A2 := A1.dL.setRow (g := w.heap.size) aj (wc s1)
 have M2 := M.keep T2.below
 have MM : MX B (w1.setRow w.heap.size (wc s1)) g gl cap w.heap.size c a L s1 (w1.setRow w.heap.size (wc s1)) := ⟨M2, T2.X, Tri.refl _ _ _ _, by omega, by omega⟩
 obtain ⟨w2, hw2⟩ : ∃ u, u = w1.setRow w.heap.size (wc s1) := ⟨_, rfl⟩
 rw [← hw2] at MM A2 T2
 have hs2 : w.heap.size + 2 ≤ w2.heap.size := qa57
 have HL := Lib.hid (takeLine MM hm hL hf x hx A2 hp hs2 aj (stackLn_keeps hL hp).fin.pr hbA hbB aj aj)
 rw [← HR.out] at HL
 clear A1 M2 hb1 T0 A2
 go_wp2_with (first | (refine wpList_store_row rfl 46 _ _ rfl (w.heap.size) (wc s1) rfl rfl _ _ dG ah ah ah ?_; rw [← hw2]; clear hw2 T1))
 refine HL.out.mono ?_
 rintro e w3 ⟨s3, rfl, H3, A3⟩
 have Z3 := H3.T.bk T2.Z aj aj aj
 have HE := H3
 have ZE := Z3
 obtain ⟨ra, rL, rx, rw', rok⟩ := R
 simp only at *
 clear Z3 MM H3 HR HL
 by_cases hw : rw' = 0
 ·obtain rfl : R' = ⟨ra, rL, rx, rw', rok⟩ := HR'.out.trans (if_pos hw)
  clear HR'
  have t1 : (rw' != 0) = false := qa5q
  have HW := Lib.hid hw
  clear hw
  go_wp2_with (first | (refine wpList_load_row rfl 46 _ rfl (w.heap.size) rfl _ (wc s3) (0, 0) _ qa58 Tryz.underlying46 rfl ah ?_) | (refine wpList_store_row rfl 46 _ _ rfl (w.heap.size + 1) (wc s3) rfl rfl _ _ qa59 ah ah ah ?_))
  have ZF := ZE.setRow (wc s3)
  refine bodyPost_ret (v := .tuple #[wv s3, .int .i64 rw', .bool rok]) ?_ rfl ⟨_, rfl, liesF_end A3 aj aj _, HE.M.apart (g' := w.heap.size + 1) (gl' := w.heap.size + 1) ((Touch.refl _ _ _).setRow _) aj aj aj aj, dQ T2.below HE.T aj _⟩
  exact qa2w
 ·obtain rfl : R' = ⟨ra, rL, { rx with p := { rx.p with ln := 0 } }, rw', rok⟩ := HR'.out.trans (if_neg hw)
  clear HR'
  have t1 : (rw' != 0) = true := qa5q
  have f0 : ∀ s : Wk, (wc s)[0]? = some (.int .i64 s.p.ln) := fun _ => rfl
  clear hw
  have x3 := HE.X.cells
  have z3 := HE.X.frozen
  have e3 : (w3.cell? ⟨w.heap.size, 0, none⟩).isSome = true := qa5a
  have H4 := HE.set (s' := { s3 with p := { s3.p with ln := 0 } }) 0 (.int .i64 0) rfl
  have A4 := A3.setCell (g := w.heap.size) aj 0 (.int .i64 0)
  have Z4 := ZE.aA (a := ⟨w.heap.size, 0, none⟩) aF (.int .i64 0)
  have ep := A3.p
  have A5 : aQ (w.heap.size + 2) _ ({ s3 with p := { s3.p with ln := 0 } } : Wk) { rx with p := { rx.p with ln := 0 } } := ⟨by rw [ep], A4.rk, A4.l0, A4.l1, A4.l2, A4.hl, A4.rd⟩
  clear ep A4
  go_wp2_with (first | (refine wpList_load_row rfl 46 _ rfl (w.heap.size) rfl _ (wc ({ s3 with p := { s3.p with ln := 0 } } : Wk)) (0, 0) _ (by exact H4.X) Tryz.underlying46 rfl ah ?_) | (refine wpList_store_row rfl 46 _ _ rfl (w.heap.size + 1) (wc ({ s3 with p := { s3.p with ln := 0 } } : Wk)) rfl rfl _ _ (by exact Z4) ah ah ah ?_))
  have ZF := Z4.setRow (wc ({ s3 with p := { s3.p with ln := 0 } } : Wk))
  refine bodyPost_ret (v := .tuple #[wv ({ s3 with p := { s3.p with ln := 0 } } : Wk), .int .i64 rw', .bool rok]) ?_ rfl ⟨_, rfl, liesF_end A5 aj aj _, H4.M.apart (g' := w.heap.size + 1) (gl' := w.heap.size + 1) ((Touch.refl _ _ _).setRow _) aj aj aj aj, dQ T2.below H4.T aj _⟩
  exact qa2w
end Go.Proofs.YtaiodbcnbcdokaaGreat.Me
namespace Go.Proofs.YtaiodbcnbcdokaaGreat.Me
open Go Go.RowKit Gro Own Wd Ap Go.Proofs.YtaiodbcnbcdokaaGreat.Pl Wo
def RdP (P : Nat → Prop) (w : World) (k : IntKind) (y : Sl) (l : List Int) : Prop := Reads w k y.v l ∧ (l = [] ∨ ∀ d, y.ad = some d → P d.block)
structure aM (P : Nat → Prop) (w : World) (s : Wk) (x : St) : Prop where
 p : s.p = x.p
 rk : RdP P w .i64 s.rk x.rk
 l0 : RdP P w .i64 s.l0 x.l0
 l1 : RdP P w .i64 s.l1 x.l1
 l2 : RdP P w .i64 s.l2 x.l2
 hl : RdP P w .i64 s.hl x.hl
 rd : RdP P w .u64 s.rd x.rd
section
variable {P Q : Nat → Prop} {w u : World} {s : Wk} {x : St} {k : IntKind} {y : Sl} {l : List Int}
theorem RdP.keep (h : RdP P w k y l) (hb : Below w.heap.size w u) : RdP P u k y l := ⟨h.1.keep hb, h.2⟩
theorem RdP.mono (h : RdP P w k y l) (hq : ∀ b, b < w.heap.size → P b → Q b) : RdP Q w k y l := qa1c
theorem RdP.row (h : RdP P w k y l) {g : Nat} (hg : ¬ P g) (cs : Array Value) : RdP P (w.setRow g cs) k y l := ⟨iC h.1 (h.2.imp_right fun q d hd => fun (e : d.block = g) => hg (by rw [← e]; exact q d hd)) cs, h.2⟩
theorem RdP.cell (h : RdP P w k y l) {g : Nat} (hg : ¬ P g) (j : Nat) (z : Value) : RdP P (w.setCell ⟨g, j, none⟩ z) k y l := by
 refine ⟨?_, h.2⟩
 obtain ⟨ad, cap, he, h1, h2, h3⟩ := h.1
 refine ⟨ad, cap, he, h1, h2, ?_⟩
 rcases h3 with h3 | ⟨b, off, e2, hlt, hc⟩
 ·exact .inl h3
 ·rcases h.2 with h4 | h4
  ·exact .inl h4
  ·simp only [Sl.v, Value.slice.injEq] at he
   have hne : b ≠ g := fun e => hg (e ▸ h4 _ (he.1.trans e2))
   exact qa2s
theorem aM.keep (h : aM P w s x) (hb : Below w.heap.size w u) : aM P u s x := ⟨h.p, h.rk.keep hb, h.l0.keep hb, h.l1.keep hb, h.l2.keep hb, h.hl.keep hb, h.rd.keep hb⟩
theorem aM.mono (h : aM P w s x) (hq : ∀ b, b < w.heap.size → P b → Q b) : aM Q w s x := ⟨h.p, h.rk.mono hq, h.l0.mono hq, h.l1.mono hq, h.l2.mono hq, h.hl.mono hq, h.rd.mono hq⟩
theorem aM.row (h : aM P w s x) {g : Nat} (hg : ¬ P g) (cs : Array Value) : aM P (w.setRow g cs) s x := ⟨h.p, h.rk.row hg cs, h.l0.row hg cs, h.l1.row hg cs, h.l2.row hg cs, h.hl.row hg cs, h.rd.row hg cs⟩
theorem aM.cell (h : aM P w s x) {g : Nat} (hg : ¬ P g) (j : Nat) (z : Value) : aM P (w.setCell ⟨g, j, none⟩ z) s x := ⟨h.p, h.rk.cell hg j z, h.l0.cell hg j z, h.l1.cell hg j z, h.l2.cell hg j z, h.hl.cell hg j z, h.rd.cell hg j z⟩
theorem aM.lies (h : aM P w s x) : aP w s x := ⟨h.p, h.rk.1, h.l0.1, h.l1.1, h.l2.1, h.hl.1, h.rd.1⟩
theorem aM.pl (h : aM P w s x) {p p' : Pl} (e : p = p') : aM P w { s with p := p } { x with p := p' } := ⟨e, h.rk, h.l0, h.l1, h.l2, h.hl, h.rd⟩
theorem aM.of {B : Nat} (h : aQ B w s x) (hq : ∀ b, b < w.heap.size → B ≤ b → P b) : aM P w s x :=
 aM.mono (P := fun b => B ≤ b) ⟨h.p, h.rk, h.l0, h.l1, h.l2, h.hl, h.rd⟩ hq
theorem aM.dL {B : Nat} (h : aM P w s x) (hq : ∀ b, b < w.heap.size → P b → B ≤ b) : aQ B w s x :=
 have h' := aM.mono (Q := fun b => B ≤ b) h hq
 ⟨h'.p, h'.rk, h'.l0, h'.l1, h'.l2, h'.hl, h'.rd⟩
end
def GSP (P : Nat → Prop) (B g gl cap : Nat) (c : Cfg) (r : Rs) (w : World) (e : Ending) (w' : World) : Prop :=
 ∃ s2, e = .returned (.tuple #[wv s2, .int .i64 r.way, .bool r.ok]) ∧ aM P w' s2 r.x ∧ aC B w' g c r.a gl cap r.L ∧ Touch g gl w w'
theorem gsp_of {P : Nat → Prop} {B g gl cap : Nat} {c : Cfg} {r : Rs} {w w' : World} {e : Ending} (hP : ∀ b, w.heap.size ≤ b → P b) (h : GS B g gl cap c r w e w') : GSP P B g gl cap c r w e w' := by
 obtain ⟨s2, h1, h2, h3, h4⟩ := h
 exact ⟨s2, h1, aM.of h2 (fun b _ q => hP b q), h3, h4⟩
end Go.Proofs.YtaiodbcnbcdokaaGreat.Me
