/- Part Stacks. -/
import Derived.Test.YtaiodbcnbcdokaaGreatKStepFn
set_option linter.unusedVariables false
set_option linter.unusedSimpArgs false
set_option linter.unusedSectionVars false
set_option maxRecDepth 100000
set_option maxHeartbeats 16000000
namespace Go.Proofs.YtaiodbcnbcdokaaGreat.Me
open Go Go.RowKit Gro Own Wd Ap Go.Proofs.YtaiodbcnbcdokaaGreat.Pl Wo
def skH (e : Bool) : Int := if e then 2 else 1
def skLk (c : Cfg) (e : Bool) (i : Int) : Int := if e then aEnl c i else aBlk c i
def aD (e : Bool) (p : Pl) : Int := wrap64 ((if e then p.i else p.k) - 1)
def d9 (e : Bool) (k : Int) : Int := if e then k + 10 else k
def bM (v : Int) : Int := v % 4294967296
def bY (top v : Int) : Int := Pk.hd top (v / 4294967296 + 1)
def sk10 (c : Cfg) (L : List Int) (p : Pl) (e : Bool) : Res :=
 ⟨acc L 1 (skH e) 0 0, L, { p with v := ldV L (skH e), h := bM (ldV L (skH e)), ln := if bM (ldV L (skH e)) = 0 then p.ln else d9 e 11 }, if bM (ldV L (skH e)) = 0 then 2 else 0, true⟩
def sk11 (c : Cfg) (L : List Int) (p : Pl) (e : Bool) : Res :=
 ⟨acc L 1 (skLk c e (wrap64 (p.h - 1))) 0 0, L, { p with n := ldV L (skLk c e (wrap64 (p.h - 1))), ln := d9 e 12 }, 0, true⟩
def skSwap (L : List Int) (p : Pl) (e : Bool) (top back : Int) : Res :=
 ⟨acc L 3 (skH e) p.v (bY top p.v), csL L (skH e) p.v (bY top p.v), { p with ln := if csB L (skH e) p.v = true then p.ln else d9 e back }, if csB L (skH e) p.v = true then 1 else 0, true⟩
def sk12 (c : Cfg) (L : List Int) (p : Pl) (e : Bool) : Res := skSwap L p e (bM p.n - 1) 10
def sk13 (c : Cfg) (L : List Int) (p : Pl) (e : Bool) : Res :=
 ⟨acc L 1 (skH e) 0 0, L, { p with v := ldV L (skH e), ln := d9 e 14 }, 0, true⟩
def sk14 (c : Cfg) (L : List Int) (p : Pl) (e : Bool) : Res :=
 ⟨acc L 2 (skLk c e (aD e p)) (bM p.v) 0, stL L (skLk c e (aD e p)) (bM p.v), { p with ln := d9 e 15 }, 0, true⟩
def sk15 (c : Cfg) (L : List Int) (p : Pl) (e : Bool) : Res := skSwap L p e (aD e p) 13
def skGo (c : Cfg) (a : Acc) (L : List Int) (p : Pl) (e : Bool) : Res :=
 if p.ln = d9 e 10 then sk10 c L p e else if p.ln = d9 e 11 then sk11 c L p e else if p.ln = d9 e 12 then sk12 c L p e
 else if p.ln = d9 e 13 then sk13 c L p e else if p.ln = d9 e 14 then sk14 c L p e else if p.ln = d9 e 15 then sk15 c L p e else ⟨a, L, p, 0, false⟩
def aT (c : Cfg) (a : Acc) (L : List Int) (p : Pl) : Res := skGo c a L p (decide (20 ≤ p.ln))
end Go.Proofs.YtaiodbcnbcdokaaGreat.Me
namespace Go.Proofs.YtaiodbcnbcdokaaGreat.Me
open Go Go.RowKit Gro Own Wd Ap Go.Proofs.YtaiodbcnbcdokaaGreat.Pl Wo
theorem stackStepZ0 {B : Nat} {w : World} {g gl cap : Nat} {c : Cfg} {a a' : Acc} {L L' : List Int} (M : aC B w g c a gl cap L) (s : Wk) (x : St) (hx : Few 1000 x) (h : aP w s x) {p1 : Pl} {ok : Bool}
  (HL : RowKit.Hid (∀ gx s1 w1, MX B w1 g gl cap gx c a L s1 w1 → s1.p = x.p → Calls Tryz.prog 229 #[.pointer (some ⟨g, 0, none⟩), .pointer (some ⟨gx, 0, none⟩)] w1 (LP B w1 g gl cap gx c ⟨a', L', p1, (0 : Int), ok⟩ s1))) :
  Calls Tryz.prog 223 #[.pointer (some ⟨g, 0, none⟩), wv s] w (iI B g gl cap c ⟨a', L', p1, (0 : Int), ok⟩ x w) := by
 have T0 := Two.start w s
 have mlt := M.lt
 go_enter Tryz.func223, Tryz.ntmps223
 go_wp2_with (first | (refine au rfl rfl ?_) | (refine wpList_load_row rfl 46 _ rfl w.heap.size rfl _ (wc s) (0, 0) _ bT Tryz.underlying46 rfl ah ?_))
 refine (aW s x hx _ (h.keep T0.below)).mono ?_
 rintro e w1 ⟨s1, rfl, A1, hb1⟩
 have T1 := T0.keep hb1
 have b1 := T1.lt
 have T2 := T1.bO s1
 have hsz : ((w.alloc (.cells (wc s) 46)).alloc (.cells (wc wz) 46)).heap.size = w.heap.size + 2 := aF
 rw [hsz] at A1 hb1
 have A2 := A1.setRow (g := w.heap.size) aj (wc s1)
 have M2 := M.keep T2.below
 have MM : MX B (w1.setRow w.heap.size (wc s1)) g gl cap w.heap.size c a L s1 (w1.setRow w.heap.size (wc s1)) := ⟨M2, T2.X, Tri.refl _ _ _ _, by omega, by omega⟩
 obtain ⟨w2, hw2⟩ : ∃ u, u = w1.setRow w.heap.size (wc s1) := ⟨_, rfl⟩
 rw [← hw2] at MM A2 T2
 have hp := A1.p
 clear A1 M2 hb1 T0
 go_wp2_with (first | (refine wpList_store_row rfl 46 _ _ rfl w.heap.size (wc s1) rfl rfl _ _ dG ah ah ah ?_; rw [← hw2]; clear hw2 T1))
 refine (HL.out _ s1 _ MM hp).mono ?_
 rintro e w3 ⟨rfl, H3⟩
 have Z3 := H3.T.bk T2.Z aj aj aj
 have A3 := jh A2 H3.T aj aj aj
 have HE := H3
 have ZE := Z3
 clear Z3 MM H3 A2
 go_wp2_with (first | (refine wpList_load_row rfl 46 _ rfl w.heap.size rfl _ (wc ({ s1 with p := p1 } : Wk)) (0, 0) _ qa58 Tryz.underlying46 rfl ah ?_) | (refine wpList_store_row rfl 46 _ _ rfl (w.heap.size + 1) (wc ({ s1 with p := p1 } : Wk)) rfl rfl _ _ qa59 ah ah ah ?_))
 have ZF := ZE.setRow (wc ({ s1 with p := p1 } : Wk))
 refine bodyPost_ret (v := .tuple #[wv ({ s1 with p := p1 } : Wk), .int .i64 (0 : Int), .bool ok]) ?_ rfl ⟨_, rfl, iH A3 aj aj _, HE.M.apart (g' := w.heap.size + 1) (gl' := w.heap.size + 1) ((Touch.refl _ _ _).setRow _) aj aj aj aj, dQ T2.below HE.T aj _⟩
 exact Rw.results_cell_slot2 (p := 4) (q := 5) (r := 6) (ty := 46) Tryz.results223 _ _ (w.heap.size + 1) 46 _ (0, 0) _ rfl ZF Tryz.underlying46 rfl ah
theorem stackStepZ1 {B : Nat} {w : World} {g gl cap : Nat} {c : Cfg} {a a' : Acc} {L L' : List Int} (M : aC B w g c a gl cap L) (s : Wk) (x : St) (hx : Few 1000 x) (h : aP w s x) {p1 : Pl} {way : Int} (hway : way ≠ 0) {ok : Bool}
  (HL : RowKit.Hid (∀ gx s1 w1, MX B w1 g gl cap gx c a L s1 w1 → s1.p = x.p → Calls Tryz.prog 229 #[.pointer (some ⟨g, 0, none⟩), .pointer (some ⟨gx, 0, none⟩)] w1 (LP B w1 g gl cap gx c ⟨a', L', p1, way, ok⟩ s1))) :
  Calls Tryz.prog 223 #[.pointer (some ⟨g, 0, none⟩), wv s] w (iI B g gl cap c ⟨a', L', { p1 with ln := 0 }, way, ok⟩ x w) := by
 have T0 := Two.start w s
 have mlt := M.lt
 have hwb : (way != 0) = true := by simp [hway]
 clear hway
 go_enter Tryz.func223, Tryz.ntmps223
 go_wp2_with (first | (refine au rfl rfl ?_) | (refine wpList_load_row rfl 46 _ rfl w.heap.size rfl _ (wc s) (0, 0) _ bT Tryz.underlying46 rfl ah ?_))
 refine (aW s x hx _ (h.keep T0.below)).mono ?_
 rintro e w1 ⟨s1, rfl, A1, hb1⟩
 have T1 := T0.keep hb1
 have b1 := T1.lt
 have T2 := T1.bO s1
 have hsz : ((w.alloc (.cells (wc s) 46)).alloc (.cells (wc wz) 46)).heap.size = w.heap.size + 2 := aF
 rw [hsz] at A1 hb1
 have A2 := A1.setRow (g := w.heap.size) aj (wc s1)
 have M2 := M.keep T2.below
 have MM : MX B (w1.setRow w.heap.size (wc s1)) g gl cap w.heap.size c a L s1 (w1.setRow w.heap.size (wc s1)) := ⟨M2, T2.X, Tri.refl _ _ _ _, by omega, by omega⟩
 obtain ⟨w2, hw2⟩ : ∃ u, u = w1.setRow w.heap.size (wc s1) := ⟨_, rfl⟩
 rw [← hw2] at MM A2 T2
 have hp := A1.p
 clear A1 M2 hb1 T0
 go_wp2_with (first | (refine wpList_store_row rfl 46 _ _ rfl w.heap.size (wc s1) rfl rfl _ _ dG ah ah ah ?_; rw [← hw2]; clear hw2 T1))
 refine (HL.out _ s1 _ MM hp).mono ?_
 rintro e w3 ⟨rfl, H3⟩
 have Z3 := H3.T.bk T2.Z aj aj aj
 have A3 := jh A2 H3.T aj aj aj
 have HE := H3.set (s' := { s1 with p := { p1 with ln := 0 } }) 0 (.int .i64 0) rfl
 have ZE := Z3.aA (a := ⟨w.heap.size, 0, none⟩) aF (.int .i64 0)
 have x3 := H3.X.cells
 have z3 := H3.X.frozen
 have f0 : ∀ s : Wk, (wc s)[0]? = some (.int .i64 s.p.ln) := fun _ => rfl
 have e0 : (w3.cell? ⟨w.heap.size, 0, none⟩).isSome = true := qa5a
 have A3 := A3.setCell (g := w.heap.size) aj 0 (.int .i64 0)
 clear Z3 MM H3 A2
 go_wp2_with (first | (refine wpList_load_row rfl 46 _ rfl w.heap.size rfl _ (wc ({ s1 with p := { p1 with ln := 0 } } : Wk)) (0, 0) _ qa58 Tryz.underlying46 rfl ah ?_) | (refine wpList_store_row rfl 46 _ _ rfl (w.heap.size + 1) (wc ({ s1 with p := { p1 with ln := 0 } } : Wk)) rfl rfl _ _ qa59 ah ah ah ?_))
 have ZF := ZE.setRow (wc ({ s1 with p := { p1 with ln := 0 } } : Wk))
 refine bodyPost_ret (v := .tuple #[wv ({ s1 with p := { p1 with ln := 0 } } : Wk), .int .i64 way, .bool ok]) ?_ rfl ⟨_, rfl, iH A3 aj aj _, HE.M.apart (g' := w.heap.size + 1) (gl' := w.heap.size + 1) ((Touch.refl _ _ _).setRow _) aj aj aj aj, dQ T2.below HE.T aj _⟩
 exact Rw.results_cell_slot2 (p := 4) (q := 5) (r := 6) (ty := 46) Tryz.results223 _ _ (w.heap.size + 1) 46 _ (0, 0) _ rfl ZF Tryz.underlying46 rfl ah
theorem stackStep {B : Nat} {w : World} {g gl cap : Nat} {c : Cfg} {a : Acc} {L : List Int} (M : aC B w g c a gl cap L) (s : Wk) (x : St) (hx : Few 1000 x) (h : aP w s x) (r : Res)
  (HL : ∀ gx s1 w1, MX B w1 g gl cap gx c a L s1 w1 → s1.p = x.p → Calls Tryz.prog 229 #[.pointer (some ⟨g, 0, none⟩), .pointer (some ⟨gx, 0, none⟩)] w1 (LP B w1 g gl cap gx c r s1)) :
  Calls Tryz.prog 223 #[.pointer (some ⟨g, 0, none⟩), wv s] w (iI B g gl cap c r.fin x w) := by
 obtain ⟨a', L', p1, way, ok⟩ := r
 by_cases hw : way = 0
 ·subst hw
  rw [Res.fin0 rfl]
  exact stackStepZ0 M s x hx h (Lib.hid HL)
 ·rw [Res.fin1 hw]
  exact stackStepZ1 M s x hx h hw (Lib.hid HL)
end Go.Proofs.YtaiodbcnbcdokaaGreat.Me
namespace Go.Proofs.YtaiodbcnbcdokaaGreat.Me
open Go Go.RowKit Gro Own Wd Ap Go.Proofs.YtaiodbcnbcdokaaGreat.Pl Wo
def lsv (c : Cfg) (e : Bool) (p : Pl) : Array Value := if e then #[.int .i64 2, .func (.func 97) #[cv c] #[], .int .i64 (aD true p)] else #[.int .i64 1, .func (.func 214) #[cv c] #[], .int .i64 (aD false p)]
def LsP (c : Cfg) (e : Bool) (p : Pl) (w : World) (en : Ending) (w' : World) : Prop := en = .returned (.agg (lsv c e p)) ∧ Below w.heap.size w w'
theorem gF {B : Nat} {w0 w : World} {g gl cap gx : Nat} {c : Cfg} {a : Acc} {L : List Int} {s : Wk} (h : MX B w0 g gl cap gx c a L s w) (hl : decide (20 ≤ s.p.ln) = true) :
  Calls Tryz.prog 230 #[.pointer (some ⟨g, 0, none⟩), .pointer (some ⟨gx, 0, none⟩)] w (LsP c true s.p w) := by
 have f0 : ∀ s : Wk, (wc s)[0]? = some (.int .i64 s.p.ln) := fun _ => rfl
 have f20 : ∀ s : Wk, (wc s)[20]? = some (.int .i64 s.p.i) := fun _ => rfl
 have hb0 : Below w.heap.size w (w.alloc (.cells #[.int .i64 0, .nilFunc, .int .i64 0] 222)) := (Below.refl _ _).alloc (Nat.le_refl _) _
 have Z0 := Bk.new w #[.int .i64 0, .nilFunc, .int .i64 0] 222
 have H0 := h.keep hb0
 have x0 := H0.X.cells
 have m0 := H0.M.B.cells
 have lx := H0.lt
 have lg := H0.M.lt.1
 have hbl : ∀ w : World, (Instr.build 222 #[(0, .int .i64 2), (1, .func (.func 97) #[cv c] #[]), (2, .int .i64 (aD true s.p))]).run Tryz.prog w = .ok (.agg #[.int .i64 2, .func (.func 97) #[cv c] #[], .int .i64 (aD true s.p)]) w := fun w => run_build w _ _ _ ah
 have hpt : wrap64 (s.p.i - 1) = aD true s.p := rfl
 generalize hwa : w.alloc (.cells #[.int .i64 0, .nilFunc, .int .i64 0] 222) = wa at *
 have HWA := Lib.hid hwa
 clear hwa
 go_enter Tryz.func230, Tryz.ntmps230
 rw [← HWA.out] at x0
 go_wp2
 rw [HWA.out] at x0 ⊢
 refine aH 11 ah ah ?_
 simp only [List.take_succ_cons, List.take_zero, List.drop_succ_cons, List.drop_zero]
 have hg := @cK
 repeat (go_big_quiet_step (fail))
 refine wpQuiet_nil ?_
 rintro w1 ⟨⟨_, hb1⟩, rfl⟩
 clear hg
 have Z1 := Z0.keep hb1
 clear x0 m0
 go_wp2_with (refine wpList_store_row rfl 222 _ _ rfl w.heap.size #[.int .i64 2, .func (.func 97) #[cv c] #[], .int .i64 (aD true s.p)] rfl rfl _ _ ji ah ah ah ?_)
 have ZF := Z1.setRow #[.int .i64 2, .func (.func 97) #[cv c] #[], .int .i64 (aD true s.p)]
 refine bodyPost_ret (v := .agg #[.int .i64 2, .func (.func 97) #[cv c] #[], .int .i64 (aD true s.p)]) ?_ rfl ⟨rfl, below_setRow (hb0.trans (hb1.mono hb0.size)) (Nat.le_refl _) _⟩
 exact results_cell_row (p := 4) (ty := 222) Tryz.results230 _ _ w.heap.size 222 _ (0, 0) _ rfl ZF Tryz.underlying222 rfl ah
theorem gG {B : Nat} {w0 w : World} {g gl cap gx : Nat} {c : Cfg} {a : Acc} {L : List Int} {s : Wk} (h : MX B w0 g gl cap gx c a L s w) (hl : decide (20 ≤ s.p.ln) = false) :
  Calls Tryz.prog 230 #[.pointer (some ⟨g, 0, none⟩), .pointer (some ⟨gx, 0, none⟩)] w (LsP c false s.p w) := by
 have f0 : ∀ s : Wk, (wc s)[0]? = some (.int .i64 s.p.ln) := fun _ => rfl
 have f19 : ∀ s : Wk, (wc s)[19]? = some (.int .i64 s.p.k) := fun _ => rfl
 have hb0 : Below w.heap.size w (w.alloc (.cells #[.int .i64 0, .nilFunc, .int .i64 0] 222)) := (Below.refl _ _).alloc (Nat.le_refl _) _
 have Z0 := Bk.new w #[.int .i64 0, .nilFunc, .int .i64 0] 222
 have H0 := h.keep hb0
 have x0 := H0.X.cells
 have m0 := H0.M.B.cells
 have lx := H0.lt
 have lg := H0.M.lt.1
 have hbl : ∀ w : World, (Instr.build 222 #[(0, .int .i64 1), (1, .func (.func 214) #[cv c] #[]), (2, .int .i64 (aD false s.p))]).run Tryz.prog w = .ok (.agg #[.int .i64 1, .func (.func 214) #[cv c] #[], .int .i64 (aD false s.p)]) w := fun w => run_build w _ _ _ ah
 have hpt : wrap64 (s.p.k - 1) = aD false s.p := rfl
 generalize hwa : w.alloc (.cells #[.int .i64 0, .nilFunc, .int .i64 0] 222) = wa at *
 have HWA := Lib.hid hwa
 clear hwa
 go_enter Tryz.func230, Tryz.ntmps230
 rw [← HWA.out] at x0
 go_wp2
 rw [HWA.out] at x0 ⊢
 refine aH 11 ah ah ?_
 simp only [List.take_succ_cons, List.take_zero, List.drop_succ_cons, List.drop_zero]
 have hg := @cK
 repeat (go_big_quiet_step (fail))
 refine wpQuiet_nil ?_
 rintro w1 ⟨⟨_, hb1⟩, rfl⟩
 clear hg
 have Z1 := Z0.keep hb1
 clear x0 m0
 go_wp2_with (refine wpList_store_row rfl 222 _ _ rfl w.heap.size #[.int .i64 1, .func (.func 214) #[cv c] #[], .int .i64 (aD false s.p)] rfl rfl _ _ ji ah ah ah ?_)
 have ZF := Z1.setRow #[.int .i64 1, .func (.func 214) #[cv c] #[], .int .i64 (aD false s.p)]
 refine bodyPost_ret (v := .agg #[.int .i64 1, .func (.func 214) #[cv c] #[], .int .i64 (aD false s.p)]) ?_ rfl ⟨rfl, below_setRow (hb0.trans (hb1.mono hb0.size)) (Nat.le_refl _) _⟩
 exact results_cell_row (p := 4) (ty := 222) Tryz.results230 _ _ w.heap.size 222 _ (0, 0) _ rfl ZF Tryz.underlying222 rfl ah
theorem skLow (v : Int) (h0 : 0 ≤ v) (h1 : v < 18446744073709551616) (w : World) : Calls Tryz.prog 231 #[.int .u64 v] w fun e w' => e = .returned (.int .u64 (bM v)) ∧ w = w' := by
 go_enter Tryz.func231, Tryz.ntmps231
 go_wp2
 go_ret
 exact ⟨Pk.cu (by unfold bM; first | rfl | omega | (rw [IntKind.wrap_u32]; omega)), rfl⟩
theorem sk10bn {B : Nat} {w0 w : World} {g gl cap gx : Nat} {c : Cfg} {a : Acc} {L : List Int} {s : Wk} (h : MX B w0 g gl cap gx c a L s w) (hm : L.length ≤ 1000) (hL : WR L) (hl : s.p.ln = 10) (hz : bM (ldV L 1) ≠ 0) : Calls Tryz.prog 229 #[.pointer (some ⟨g, 0, none⟩), .pointer (some ⟨gx, 0, none⟩)] w (LP B w0 g gl cap gx c ⟨acc L 1 1 0 0, L, { s.p with v := ldV L 1, h := bM (ldV L 1), ln := 11 }, 0, true⟩ s) := by
 have hv := dP hL 1
 have HZ := Lib.hid hz
 clear hz
 have f0 : ∀ s : Wk, (wc s)[0]? = some (.int .i64 s.p.ln) := fun _ => rfl
 have f23 : ∀ s : Wk, (wc s)[23]? = some (.int .u64 s.p.h) := fun _ => rfl
 have f25 : ∀ s : Wk, (wc s)[25]? = some (.int .u64 s.p.v) := fun _ => rfl
 have t10 : (s.p.ln == 10) = true := jB hl
 have hd : decide (20 ≤ s.p.ln) = false := qa5c
 have HLS := Lib.hid (gG h hd)
 have hw1 : wrap64 (s.p.ln + 1) = 11 := qa7x
 clear hl hd
 go_enter Tryz.func229, Tryz.ntmps229
 go_wp2_with fail
 refine HLS.out.mono ?_
 rintro en w1 ⟨rfl, hb1⟩
 have hlv : lsv c false s.p = #[.int .i64 1, .func (.func 214) #[cv c] #[], .int .i64 (aD false s.p)] := rfl
 rw [hlv]
 have hb2 : Below w1.heap.size w1 ((w1.alloc (.cells #[.int .i64 0, .nilFunc, .int .i64 0] 222)).setRow w1.heap.size #[.int .i64 1, .func (.func 214) #[cv c] #[], .int .i64 (aD false s.p)]) := below_setRow ((Below.refl _ _).alloc (Nat.le_refl _) _) (Nat.le_refl _) _
 have H2 := (h.keep hb1).keep hb2
 have Z1 := Bk.new w1 #[.int .i64 0, .nilFunc, .int .i64 0] 222
 have Z2 := Z1.setRow #[.int .i64 1, .func (.func 214) #[cv c] #[], .int .i64 (aD false s.p)]
 have lz := (h.keep hb1).lt
 have lgz := (h.keep hb1).M.lt
 have n1 : w1.heap.size ≠ g := aj
 have n2 : w1.heap.size ≠ gl := aj
 have n3 : w1.heap.size ≠ gx := aj
 obtain ⟨w2, hw2⟩ : ∃ u, u = (w1.alloc (.cells #[.int .i64 0, .nilFunc, .int .i64 0] 222)).setRow w1.heap.size #[.int .i64 1, .func (.func 214) #[cv c] #[], .int .i64 (aD false s.p)] := ⟨_, rfl⟩
 rw [← hw2] at H2 Z2
 clear hlv hb1 hb2 h lz lgz HLS
 go_wp2_with (refine wpList_store_row rfl 222 _ _ rfl w1.heap.size #[.int .i64 1, .func (.func 214) #[cv c] #[], .int .i64 (aD false s.p)] rfl rfl _ _ ji ah ah ah ?_; rw [← hw2]; clear hw2 Z1; obtain ⟨gz, hgz⟩ : ∃ u, u = w1.heap.size := ⟨_, rfl⟩; rw [← hgz] at Z2 n1 n2 n3; try rw [← hgz]; clear hgz; have x2 := H2.X.cells; have z2 := Z2.cells)
 refine (bF H2.M hm 1).mono ?_
 rintro en w3 ⟨rfl, M3, T3⟩
 have H3 := H2.mem M3 T3
 obtain ⟨v0, hv0⟩ : ∃ v, v = ldV L 1 := ⟨_, rfl⟩
 rw [← hv0] at hv HZ
 simp only [← hv0]
 have HV := Lib.hid hv0
 clear hv0 x2 z2 M3 T3 H2 Z2
 have H4 := H3.set (s' := { s with p := { s.p with v := v0 } }) 25 (.int .u64 v0) rfl
 have xw3 := H3.X.cells
 have zw3 := H3.X.frozen
 have ew3 : (w3.cell? ⟨gx, 25, none⟩).isSome = true := qa5d
 go_wp2_with fail
 generalize w3.setCell ⟨gx, 25, none⟩ (.int .u64 v0) = w4 at *
 clear xw3 zw3 ew3 H3
 refine (skLow v0 hv.1 hv.2 _).mono ?_
 rintro en w5 ⟨rfl, rfl⟩
 obtain ⟨u0, hu0⟩ : ∃ v, v = bM v0 := ⟨_, rfl⟩
 rw [← hu0] at HZ
 simp only [← hu0]
 have HU := Lib.hid hu0
 clear hu0
 have H5 := H4.set (s' := { s with p := { s.p with v := v0, h := u0 } }) 23 (.int .u64 u0) rfl
 have xw4 := H4.X.cells
 have zw4 := H4.X.frozen
 have ew4 : (w4.cell? ⟨gx, 23, none⟩).isSome = true := by rw [xw4, f23]; rfl
 have tz : (u0 == 0) = false := qa5e
 have yw4 : ((w4.setCell ⟨gx, 23, none⟩ (.int .u64 u0)).cell? ⟨gx, 0, none⟩).isSome = true := qa5f
 have H6 := H5.set (s' := { s with p := { s.p with v := v0, h := u0, ln := 11 } }) 0 (.int .i64 11) rfl
 go_wp2
 go_ret2
 have e1 := HV.out
 have e2 := HU.out
 subst e1
 subst e2
 exact ⟨rfl, H6⟩
theorem sk10bz {B : Nat} {w0 w : World} {g gl cap gx : Nat} {c : Cfg} {a : Acc} {L : List Int} {s : Wk} (h : MX B w0 g gl cap gx c a L s w) (hm : L.length ≤ 1000) (hL : WR L) (hl : s.p.ln = 10) (hz : bM (ldV L 1) = 0) : Calls Tryz.prog 229 #[.pointer (some ⟨g, 0, none⟩), .pointer (some ⟨gx, 0, none⟩)] w (LP B w0 g gl cap gx c ⟨acc L 1 1 0 0, L, { s.p with v := ldV L 1, h := bM (ldV L 1) }, 2, true⟩ s) := by
 have hv := dP hL 1
 have HZ := Lib.hid hz
 clear hz
 have f0 : ∀ s : Wk, (wc s)[0]? = some (.int .i64 s.p.ln) := fun _ => rfl
 have f23 : ∀ s : Wk, (wc s)[23]? = some (.int .u64 s.p.h) := fun _ => rfl
 have f25 : ∀ s : Wk, (wc s)[25]? = some (.int .u64 s.p.v) := fun _ => rfl
 have t10 : (s.p.ln == 10) = true := jB hl
 have hd : decide (20 ≤ s.p.ln) = false := qa5c
 have HLS := Lib.hid (gG h hd)
 clear hl hd
 go_enter Tryz.func229, Tryz.ntmps229
 go_wp2_with fail
 refine HLS.out.mono ?_
 rintro en w1 ⟨rfl, hb1⟩
 have hlv : lsv c false s.p = #[.int .i64 1, .func (.func 214) #[cv c] #[], .int .i64 (aD false s.p)] := rfl
 rw [hlv]
 have hb2 : Below w1.heap.size w1 ((w1.alloc (.cells #[.int .i64 0, .nilFunc, .int .i64 0] 222)).setRow w1.heap.size #[.int .i64 1, .func (.func 214) #[cv c] #[], .int .i64 (aD false s.p)]) := below_setRow ((Below.refl _ _).alloc (Nat.le_refl _) _) (Nat.le_refl _) _
 have H2 := (h.keep hb1).keep hb2
 have Z1 := Bk.new w1 #[.int .i64 0, .nilFunc, .int .i64 0] 222
 have Z2 := Z1.setRow #[.int .i64 1, .func (.func 214) #[cv c] #[], .int .i64 (aD false s.p)]
 have lz := (h.keep hb1).lt
 have lgz := (h.keep hb1).M.lt
 have n1 : w1.heap.size ≠ g := aj
 have n2 : w1.heap.size ≠ gl := aj
 have n3 : w1.heap.size ≠ gx := aj
 obtain ⟨w2, hw2⟩ : ∃ u, u = (w1.alloc (.cells #[.int .i64 0, .nilFunc, .int .i64 0] 222)).setRow w1.heap.size #[.int .i64 1, .func (.func 214) #[cv c] #[], .int .i64 (aD false s.p)] := ⟨_, rfl⟩
 rw [← hw2] at H2 Z2
 clear hlv hb1 hb2 h lz lgz HLS
 go_wp2_with (refine wpList_store_row rfl 222 _ _ rfl w1.heap.size #[.int .i64 1, .func (.func 214) #[cv c] #[], .int .i64 (aD false s.p)] rfl rfl _ _ ji ah ah ah ?_; rw [← hw2]; clear hw2 Z1; obtain ⟨gz, hgz⟩ : ∃ u, u = w1.heap.size := ⟨_, rfl⟩; rw [← hgz] at Z2 n1 n2 n3; try rw [← hgz]; clear hgz; have x2 := H2.X.cells; have z2 := Z2.cells)
 refine (bF H2.M hm 1).mono ?_
 rintro en w3 ⟨rfl, M3, T3⟩
 have H3 := H2.mem M3 T3
 obtain ⟨v0, hv0⟩ : ∃ v, v = ldV L 1 := ⟨_, rfl⟩
 exact qa2j
theorem sk10en {B : Nat} {w0 w : World} {g gl cap gx : Nat} {c : Cfg} {a : Acc} {L : List Int} {s : Wk} (h : MX B w0 g gl cap gx c a L s w) (hm : L.length ≤ 1000) (hL : WR L) (hl : s.p.ln = 20) (hz : bM (ldV L 2) ≠ 0) : Calls Tryz.prog 229 #[.pointer (some ⟨g, 0, none⟩), .pointer (some ⟨gx, 0, none⟩)] w (LP B w0 g gl cap gx c ⟨acc L 1 2 0 0, L, { s.p with v := ldV L 2, h := bM (ldV L 2), ln := 21 }, 0, true⟩ s) := by
 have hv := dP hL 2
 have HZ := Lib.hid hz
 clear hz
 have f0 : ∀ s : Wk, (wc s)[0]? = some (.int .i64 s.p.ln) := fun _ => rfl
 have f23 : ∀ s : Wk, (wc s)[23]? = some (.int .u64 s.p.h) := fun _ => rfl
 have f25 : ∀ s : Wk, (wc s)[25]? = some (.int .u64 s.p.v) := fun _ => rfl
 have t10 : (s.p.ln == 10) = false := jB hl
 have t20 : (s.p.ln == 20) = true := jB hl
 have hd : decide (20 ≤ s.p.ln) = true := qa5c
 have HLS := Lib.hid (gF h hd)
 have hw1 : wrap64 (s.p.ln + 1) = 21 := qa7x
 clear hl hd
 go_enter Tryz.func229, Tryz.ntmps229
 go_wp2_with fail
 refine HLS.out.mono ?_
 rintro en w1 ⟨rfl, hb1⟩
 have hlv : lsv c true s.p = #[.int .i64 2, .func (.func 97) #[cv c] #[], .int .i64 (aD true s.p)] := rfl
 rw [hlv]
 have hb2 : Below w1.heap.size w1 ((w1.alloc (.cells #[.int .i64 0, .nilFunc, .int .i64 0] 222)).setRow w1.heap.size #[.int .i64 2, .func (.func 97) #[cv c] #[], .int .i64 (aD true s.p)]) := below_setRow ((Below.refl _ _).alloc (Nat.le_refl _) _) (Nat.le_refl _) _
 have H2 := (h.keep hb1).keep hb2
 have Z1 := Bk.new w1 #[.int .i64 0, .nilFunc, .int .i64 0] 222
 have Z2 := Z1.setRow #[.int .i64 2, .func (.func 97) #[cv c] #[], .int .i64 (aD true s.p)]
 have lz := (h.keep hb1).lt
 have lgz := (h.keep hb1).M.lt
 have n1 : w1.heap.size ≠ g := aj
 have n2 : w1.heap.size ≠ gl := aj
 have n3 : w1.heap.size ≠ gx := aj
 obtain ⟨w2, hw2⟩ : ∃ u, u = (w1.alloc (.cells #[.int .i64 0, .nilFunc, .int .i64 0] 222)).setRow w1.heap.size #[.int .i64 2, .func (.func 97) #[cv c] #[], .int .i64 (aD true s.p)] := ⟨_, rfl⟩
 rw [← hw2] at H2 Z2
 clear hlv hb1 hb2 h lz lgz HLS
 go_wp2_with (refine wpList_store_row rfl 222 _ _ rfl w1.heap.size #[.int .i64 2, .func (.func 97) #[cv c] #[], .int .i64 (aD true s.p)] rfl rfl _ _ ji ah ah ah ?_; rw [← hw2]; clear hw2 Z1; obtain ⟨gz, hgz⟩ : ∃ u, u = w1.heap.size := ⟨_, rfl⟩; rw [← hgz] at Z2 n1 n2 n3; try rw [← hgz]; clear hgz; have x2 := H2.X.cells; have z2 := Z2.cells)
 refine (bF H2.M hm 2).mono ?_
 rintro en w3 ⟨rfl, M3, T3⟩
 have H3 := H2.mem M3 T3
 obtain ⟨v0, hv0⟩ : ∃ v, v = ldV L 2 := ⟨_, rfl⟩
 rw [← hv0] at hv HZ
 simp only [← hv0]
 have HV := Lib.hid hv0
 clear hv0 x2 z2 M3 T3 H2 Z2
 have H4 := H3.set (s' := { s with p := { s.p with v := v0 } }) 25 (.int .u64 v0) rfl
 have xw3 := H3.X.cells
 have zw3 := H3.X.frozen
 have ew3 : (w3.cell? ⟨gx, 25, none⟩).isSome = true := qa5d
 go_wp2_with fail
 generalize w3.setCell ⟨gx, 25, none⟩ (.int .u64 v0) = w4 at *
 clear xw3 zw3 ew3 H3
 refine (skLow v0 hv.1 hv.2 _).mono ?_
 rintro en w5 ⟨rfl, rfl⟩
 obtain ⟨u0, hu0⟩ : ∃ v, v = bM v0 := ⟨_, rfl⟩
 rw [← hu0] at HZ
 simp only [← hu0]
 have HU := Lib.hid hu0
 clear hu0
 have H5 := H4.set (s' := { s with p := { s.p with v := v0, h := u0 } }) 23 (.int .u64 u0) rfl
 have xw4 := H4.X.cells
 have zw4 := H4.X.frozen
 have ew4 : (w4.cell? ⟨gx, 23, none⟩).isSome = true := by rw [xw4, f23]; rfl
 have tz : (u0 == 0) = false := qa5e
 have yw4 : ((w4.setCell ⟨gx, 23, none⟩ (.int .u64 u0)).cell? ⟨gx, 0, none⟩).isSome = true := qa5f
 have H6 := H5.set (s' := { s with p := { s.p with v := v0, h := u0, ln := 21 } }) 0 (.int .i64 21) rfl
 go_wp2
 go_ret2
 have e1 := HV.out
 have e2 := HU.out
 subst e1
 subst e2
 exact ⟨rfl, H6⟩
theorem sk10ez {B : Nat} {w0 w : World} {g gl cap gx : Nat} {c : Cfg} {a : Acc} {L : List Int} {s : Wk} (h : MX B w0 g gl cap gx c a L s w) (hm : L.length ≤ 1000) (hL : WR L) (hl : s.p.ln = 20) (hz : bM (ldV L 2) = 0) : Calls Tryz.prog 229 #[.pointer (some ⟨g, 0, none⟩), .pointer (some ⟨gx, 0, none⟩)] w (LP B w0 g gl cap gx c ⟨acc L 1 2 0 0, L, { s.p with v := ldV L 2, h := bM (ldV L 2) }, 2, true⟩ s) := by
 have hv := dP hL 2
 have HZ := Lib.hid hz
 clear hz
 have f0 : ∀ s : Wk, (wc s)[0]? = some (.int .i64 s.p.ln) := fun _ => rfl
 have f23 : ∀ s : Wk, (wc s)[23]? = some (.int .u64 s.p.h) := fun _ => rfl
 have f25 : ∀ s : Wk, (wc s)[25]? = some (.int .u64 s.p.v) := fun _ => rfl
 have t10 : (s.p.ln == 10) = false := jB hl
 have t20 : (s.p.ln == 20) = true := jB hl
 have hd : decide (20 ≤ s.p.ln) = true := qa5c
 have HLS := Lib.hid (gF h hd)
 clear hl hd
 go_enter Tryz.func229, Tryz.ntmps229
 go_wp2_with fail
 refine HLS.out.mono ?_
 rintro en w1 ⟨rfl, hb1⟩
 have hlv : lsv c true s.p = #[.int .i64 2, .func (.func 97) #[cv c] #[], .int .i64 (aD true s.p)] := rfl
 rw [hlv]
 have hb2 : Below w1.heap.size w1 ((w1.alloc (.cells #[.int .i64 0, .nilFunc, .int .i64 0] 222)).setRow w1.heap.size #[.int .i64 2, .func (.func 97) #[cv c] #[], .int .i64 (aD true s.p)]) := below_setRow ((Below.refl _ _).alloc (Nat.le_refl _) _) (Nat.le_refl _) _
 have H2 := (h.keep hb1).keep hb2
 have Z1 := Bk.new w1 #[.int .i64 0, .nilFunc, .int .i64 0] 222
 have Z2 := Z1.setRow #[.int .i64 2, .func (.func 97) #[cv c] #[], .int .i64 (aD true s.p)]
 have lz := (h.keep hb1).lt
 have lgz := (h.keep hb1).M.lt
 have n1 : w1.heap.size ≠ g := aj
 have n2 : w1.heap.size ≠ gl := aj
 have n3 : w1.heap.size ≠ gx := aj
 obtain ⟨w2, hw2⟩ : ∃ u, u = (w1.alloc (.cells #[.int .i64 0, .nilFunc, .int .i64 0] 222)).setRow w1.heap.size #[.int .i64 2, .func (.func 97) #[cv c] #[], .int .i64 (aD true s.p)] := ⟨_, rfl⟩
 rw [← hw2] at H2 Z2
 clear hlv hb1 hb2 h lz lgz HLS
 go_wp2_with (refine wpList_store_row rfl 222 _ _ rfl w1.heap.size #[.int .i64 2, .func (.func 97) #[cv c] #[], .int .i64 (aD true s.p)] rfl rfl _ _ ji ah ah ah ?_; rw [← hw2]; clear hw2 Z1; obtain ⟨gz, hgz⟩ : ∃ u, u = w1.heap.size := ⟨_, rfl⟩; rw [← hgz] at Z2 n1 n2 n3; try rw [← hgz]; clear hgz; have x2 := H2.X.cells; have z2 := Z2.cells)
 refine (bF H2.M hm 2).mono ?_
 rintro en w3 ⟨rfl, M3, T3⟩
 have H3 := H2.mem M3 T3
 obtain ⟨v0, hv0⟩ : ∃ v, v = ldV L 2 := ⟨_, rfl⟩
 exact qa2j
theorem sk11b {B : Nat} {w0 w : World} {g gl cap gx : Nat} {c : Cfg} {a : Acc} {L : List Int} {s : Wk} (h : MX B w0 g gl cap gx c a L s w) (hm : L.length ≤ 1000) (hL : WR L) (hf : c.Wf) (hl : s.p.ln = 11) : Calls Tryz.prog 229 #[.pointer (some ⟨g, 0, none⟩), .pointer (some ⟨gx, 0, none⟩)] w (LP B w0 g gl cap gx c ⟨acc L 1 (aBlk c (wrap64 (s.p.h - 1))) 0 0, L, { s.p with n := ldV L (aBlk c (wrap64 (s.p.h - 1))), ln := 12 }, 0, true⟩ s) := by
 have HAD := Lib.hid (fun w => Pl.blockLink c hf (wrap64 (s.p.h - 1)) w)
 have f0 : ∀ s : Wk, (wc s)[0]? = some (.int .i64 s.p.ln) := fun _ => rfl
 have f23 : ∀ s : Wk, (wc s)[23]? = some (.int .u64 s.p.h) := fun _ => rfl
 have f24 : ∀ s : Wk, (wc s)[24]? = some (.int .u64 s.p.n) := fun _ => rfl
 have t10 : (s.p.ln == 10) = false := jB hl
 have t20 : (s.p.ln == 20) = false := jB hl
 have t11 : (s.p.ln == 11) = true := jB hl
 have hd : decide (20 ≤ s.p.ln) = false := qa5c
 have HLS := Lib.hid (gG h hd)
 have hw1 : wrap64 (s.p.ln + 1) = 12 := qa7x
 have HCV := Lib.hid (show IntKind.i64.wrap (IntKind.u64.wrap (s.p.h - 1)) = wrap64 (s.p.h - 1) by rw [IntKind.wrap_u64, IntKind.wrap_i64]; unfold wrap64; omega)
 clear hl hd
 go_enter Tryz.func229, Tryz.ntmps229
 go_wp2_with fail
 refine HLS.out.mono ?_
 rintro en w1 ⟨rfl, hb1⟩
 have hlv : lsv c false s.p = #[.int .i64 1, .func (.func 214) #[cv c] #[], .int .i64 (aD false s.p)] := rfl
 rw [hlv]
 have hb2 : Below w1.heap.size w1 ((w1.alloc (.cells #[.int .i64 0, .nilFunc, .int .i64 0] 222)).setRow w1.heap.size #[.int .i64 1, .func (.func 214) #[cv c] #[], .int .i64 (aD false s.p)]) := below_setRow ((Below.refl _ _).alloc (Nat.le_refl _) _) (Nat.le_refl _) _
 have H2 := (h.keep hb1).keep hb2
 have Z1 := Bk.new w1 #[.int .i64 0, .nilFunc, .int .i64 0] 222
 have Z2 := Z1.setRow #[.int .i64 1, .func (.func 214) #[cv c] #[], .int .i64 (aD false s.p)]
 have lz := (h.keep hb1).lt
 have lgz := (h.keep hb1).M.lt
 have n1 : w1.heap.size ≠ g := aj
 have n2 : w1.heap.size ≠ gl := aj
 have n3 : w1.heap.size ≠ gx := aj
 obtain ⟨w2, hw2⟩ : ∃ u, u = (w1.alloc (.cells #[.int .i64 0, .nilFunc, .int .i64 0] 222)).setRow w1.heap.size #[.int .i64 1, .func (.func 214) #[cv c] #[], .int .i64 (aD false s.p)] := ⟨_, rfl⟩
 rw [← hw2] at H2 Z2
 clear hlv hb1 hb2 h lz lgz HLS
 go_wp2_with (refine wpList_store_row rfl 222 _ _ rfl w1.heap.size #[.int .i64 1, .func (.func 214) #[cv c] #[], .int .i64 (aD false s.p)] rfl rfl _ _ ji ah ah ah ?_; rw [← hw2]; clear hw2 Z1; obtain ⟨gz, hgz⟩ : ∃ u, u = w1.heap.size := ⟨_, rfl⟩; rw [← hgz] at Z2 n1 n2 n3; try rw [← hgz]; clear hgz; have x2 := H2.X.cells; have z2 := Z2.cells)
 clear x2 z2
 have hS0 : (∃ a' n', MX B w0 g gl cap gx c a' L { s with p := { s.p with n := n' } } w2.drew) ∧ Bk w2.drew gz #[.int .i64 1, .func (.func 214) #[cv c] #[], .int .i64 (aD false s.p)] 222 := ⟨⟨a, s.p.n, H2.keep (Below.drew (Below.refl _ _))⟩, Z2.keep (Below.drew (Below.refl _ _))⟩
 refine wp_region_held_drew (S := fun w' => (∃ a' n', MX B w0 g gl cap gx c a' L { s with p := { s.p with n := n' } } w') ∧ Bk w' gz #[.int .i64 1, .func (.func 214) #[cv c] #[], .int .i64 (aD false s.p)] 222) ah hS0 (fun hHeld => ?_)
 clear H2 Z2 hS0
 generalize w2.drew = v0 at *
 refine jT 0 (.pointer (some ⟨gx, 0, none⟩)) rfl hHeld ?_
 try simp only [Act.put, jP]
 refine jT 1 (.pointer (some ⟨g, 0, none⟩)) rfl hHeld ?_
 try simp only [Act.put, jP]
 refine jT 2 (.pointer (some ⟨gz, 1, none⟩)) rfl hHeld ?_
 try simp only [Act.put, jP]
 refine jY 3 (.func (.func 214) #[cv c] #[]) rfl (Or.inl ⟨by rfl, fun w' hSw => by have xx := hSw.2.cells; go_simp⟩) hHeld ?_
 try simp only [Act.put, jP]
 refine jT 4 (.pointer (some ⟨gx, 0, none⟩)) rfl hHeld ?_
 try simp only [Act.put, jP]
 refine jT 5 (.pointer (some ⟨gx, 0, none⟩)) rfl hHeld ?_
 try simp only [Act.put, jP]
 refine jT 6 (.pointer (some ⟨gx, 23, none⟩)) rfl hHeld ?_
 try simp only [Act.put, jP]
 refine jY 7 (.int .u64 s.p.h) rfl (Or.inl ⟨by rfl, fun w' hSw => by obtain ⟨a', n', HS⟩ := hSw.1; have xx := HS.X.cells; go_simp⟩) hHeld ?_
 try simp only [Act.put, jP]
 refine jT 8 (.int .u64 (IntKind.u64.wrap (s.p.h - 1))) rfl hHeld ?_
 try simp only [Act.put, jP]
 refine jY 9 (.int .i64 (wrap64 (s.p.h - 1))) rfl (Or.inl ⟨by rfl, fun w' hSw => by go_simp; try exact HCV.out⟩) hHeld ?_
 try simp only [Act.put, jP]
 refine jR [10] ?_
 refine jC rfl (fun K hK => ?_) jN
 go_simp
 refine (HAD.out _).mono ?_
 rintro en z1 ⟨rfl, hb⟩
 obtain ⟨⟨a1, n1', H1⟩, Z1⟩ := hHeld
 refine hK.out _ _ ⟨⟨a1, n1', H1.keep hb⟩, Z1.keep hb⟩ (fun hHeld => ?_)
 clear hK K H1 Z1 hb
 try simp only [Act.put, jP]
 refine jR [11] ?_
 refine jC rfl (fun K hK => ?_) jN
 go_simp
 obtain ⟨⟨a1, n1', H1⟩, Z1⟩ := hHeld
 refine (bF H1.M hm _).mono ?_
 rintro en w3 ⟨rfl, M3, T3⟩
 have H3 := H1.mem M3 T3
 have Z3 := T3.bk Z1 n1 n2
 refine hK.out _ _ ⟨⟨_, n1', H3⟩, Z3⟩ (fun hHeld => ?_)
 clear hK K H1 Z1 M3 T3
 obtain ⟨v1, hv1⟩ : ∃ v, v = ldV L (aBlk c (wrap64 (s.p.h - 1))) := ⟨_, rfl⟩
 simp only [← hv1]
 have HV := Lib.hid hv1
 clear hv1
 try simp only [Act.put, jP]
 refine jT 12 (.pointer (some ⟨gx, 0, none⟩)) rfl hHeld ?_
 try simp only [Act.put, jP]
 refine jT 13 (.pointer (some ⟨gx, 24, none⟩)) rfl hHeld ?_
 try simp only [Act.put, jP]
 refine jR [14] ?_
 refine jC rfl (fun K hK => ?_) jN
 have H4 := H3.set (s' := { s with p := { s.p with n := v1 } }) 24 (.int .u64 v1) rfl
 have xw3 := H3.X.cells
 have zw3 := H3.X.frozen
 have ew3 : (w3.cell? ⟨gx, 24, none⟩).isSome = true := by rw [xw3, f24]; rfl
 have Z4 := Z3.aA (a := ⟨gx, 24, none⟩) n3 (.int .u64 v1)
 go_simp
 refine hK.out _ _ ⟨⟨_, v1, H4⟩, Z4⟩ (fun hHeld => ?_)
 clear hK K H3 xw3 zw3 ew3 Z3 Z4 hHeld
 try simp only [Act.put, jP]
 refine wpAnyH_done ah ?_ _
 generalize w3.setCell ⟨gx, 24, none⟩ (.int .u64 v1) = w4 at *
 have H5 := H4.set (s' := { s with p := { s.p with n := v1, ln := 12 } }) 0 (.int .i64 12) rfl
 exact qa2k
theorem sk11e {B : Nat} {w0 w : World} {g gl cap gx : Nat} {c : Cfg} {a : Acc} {L : List Int} {s : Wk} (h : MX B w0 g gl cap gx c a L s w) (hm : L.length ≤ 1000) (hL : WR L) (hf : c.Wf) (hl : s.p.ln = 21) : Calls Tryz.prog 229 #[.pointer (some ⟨g, 0, none⟩), .pointer (some ⟨gx, 0, none⟩)] w (LP B w0 g gl cap gx c ⟨acc L 1 (aEnl c (wrap64 (s.p.h - 1))) 0 0, L, { s.p with n := ldV L (aEnl c (wrap64 (s.p.h - 1))), ln := 22 }, 0, true⟩ s) := by
 have HAD := Lib.hid (fun w => Pl.entryLink c hf (wrap64 (s.p.h - 1)) w)
 have f0 : ∀ s : Wk, (wc s)[0]? = some (.int .i64 s.p.ln) := fun _ => rfl
 have f23 : ∀ s : Wk, (wc s)[23]? = some (.int .u64 s.p.h) := fun _ => rfl
 have f24 : ∀ s : Wk, (wc s)[24]? = some (.int .u64 s.p.n) := fun _ => rfl
 have t10 : (s.p.ln == 10) = false := jB hl
 have t20 : (s.p.ln == 20) = false := jB hl
 have t11 : (s.p.ln == 11) = false := jB hl
 have t21 : (s.p.ln == 21) = true := jB hl
 have hd : decide (20 ≤ s.p.ln) = true := qa5c
 have HLS := Lib.hid (gF h hd)
 have hw1 : wrap64 (s.p.ln + 1) = 22 := qa7x
 have HCV := Lib.hid (show IntKind.i64.wrap (IntKind.u64.wrap (s.p.h - 1)) = wrap64 (s.p.h - 1) by rw [IntKind.wrap_u64, IntKind.wrap_i64]; unfold wrap64; omega)
 clear hl hd
 go_enter Tryz.func229, Tryz.ntmps229
 go_wp2_with fail
 refine HLS.out.mono ?_
 rintro en w1 ⟨rfl, hb1⟩
 have hlv : lsv c true s.p = #[.int .i64 2, .func (.func 97) #[cv c] #[], .int .i64 (aD true s.p)] := rfl
 rw [hlv]
 have hb2 : Below w1.heap.size w1 ((w1.alloc (.cells #[.int .i64 0, .nilFunc, .int .i64 0] 222)).setRow w1.heap.size #[.int .i64 2, .func (.func 97) #[cv c] #[], .int .i64 (aD true s.p)]) := below_setRow ((Below.refl _ _).alloc (Nat.le_refl _) _) (Nat.le_refl _) _
 have H2 := (h.keep hb1).keep hb2
 have Z1 := Bk.new w1 #[.int .i64 0, .nilFunc, .int .i64 0] 222
 have Z2 := Z1.setRow #[.int .i64 2, .func (.func 97) #[cv c] #[], .int .i64 (aD true s.p)]
 have lz := (h.keep hb1).lt
 have lgz := (h.keep hb1).M.lt
 have n1 : w1.heap.size ≠ g := aj
 have n2 : w1.heap.size ≠ gl := aj
 have n3 : w1.heap.size ≠ gx := aj
 obtain ⟨w2, hw2⟩ : ∃ u, u = (w1.alloc (.cells #[.int .i64 0, .nilFunc, .int .i64 0] 222)).setRow w1.heap.size #[.int .i64 2, .func (.func 97) #[cv c] #[], .int .i64 (aD true s.p)] := ⟨_, rfl⟩
 rw [← hw2] at H2 Z2
 clear hlv hb1 hb2 h lz lgz HLS
 go_wp2_with (refine wpList_store_row rfl 222 _ _ rfl w1.heap.size #[.int .i64 2, .func (.func 97) #[cv c] #[], .int .i64 (aD true s.p)] rfl rfl _ _ ji ah ah ah ?_; rw [← hw2]; clear hw2 Z1; obtain ⟨gz, hgz⟩ : ∃ u, u = w1.heap.size := ⟨_, rfl⟩; rw [← hgz] at Z2 n1 n2 n3; try rw [← hgz]; clear hgz; have x2 := H2.X.cells; have z2 := Z2.cells)
 clear x2 z2
 have hS0 : (∃ a' n', MX B w0 g gl cap gx c a' L { s with p := { s.p with n := n' } } w2.drew) ∧ Bk w2.drew gz #[.int .i64 2, .func (.func 97) #[cv c] #[], .int .i64 (aD true s.p)] 222 := ⟨⟨a, s.p.n, H2.keep (Below.drew (Below.refl _ _))⟩, Z2.keep (Below.drew (Below.refl _ _))⟩
 refine wp_region_held_drew (S := fun w' => (∃ a' n', MX B w0 g gl cap gx c a' L { s with p := { s.p with n := n' } } w') ∧ Bk w' gz #[.int .i64 2, .func (.func 97) #[cv c] #[], .int .i64 (aD true s.p)] 222) ah hS0 (fun hHeld => ?_)
 clear H2 Z2 hS0
 generalize w2.drew = v0 at *
 refine jT 0 (.pointer (some ⟨gx, 0, none⟩)) rfl hHeld ?_
 try simp only [Act.put, jP]
 refine jT 1 (.pointer (some ⟨g, 0, none⟩)) rfl hHeld ?_
 try simp only [Act.put, jP]
 refine jT 2 (.pointer (some ⟨gz, 1, none⟩)) rfl hHeld ?_
 try simp only [Act.put, jP]
 refine jY 3 (.func (.func 97) #[cv c] #[]) rfl (Or.inl ⟨by rfl, fun w' hSw => by have xx := hSw.2.cells; go_simp⟩) hHeld ?_
 try simp only [Act.put, jP]
 refine jT 4 (.pointer (some ⟨gx, 0, none⟩)) rfl hHeld ?_
 try simp only [Act.put, jP]
 refine jT 5 (.pointer (some ⟨gx, 0, none⟩)) rfl hHeld ?_
 try simp only [Act.put, jP]
 refine jT 6 (.pointer (some ⟨gx, 23, none⟩)) rfl hHeld ?_
 try simp only [Act.put, jP]
 refine jY 7 (.int .u64 s.p.h) rfl (Or.inl ⟨by rfl, fun w' hSw => by obtain ⟨a', n', HS⟩ := hSw.1; have xx := HS.X.cells; go_simp⟩) hHeld ?_
 try simp only [Act.put, jP]
 refine jT 8 (.int .u64 (IntKind.u64.wrap (s.p.h - 1))) rfl hHeld ?_
 try simp only [Act.put, jP]
 refine jY 9 (.int .i64 (wrap64 (s.p.h - 1))) rfl (Or.inl ⟨by rfl, fun w' hSw => by go_simp; try exact HCV.out⟩) hHeld ?_
 try simp only [Act.put, jP]
 refine jR [10] ?_
 refine jC rfl (fun K hK => ?_) jN
 go_simp
 refine (HAD.out _).mono ?_
 rintro en z1 ⟨rfl, hb⟩
 obtain ⟨⟨a1, n1', H1⟩, Z1⟩ := hHeld
 refine hK.out _ _ ⟨⟨a1, n1', H1.keep hb⟩, Z1.keep hb⟩ (fun hHeld => ?_)
 clear hK K H1 Z1 hb
 try simp only [Act.put, jP]
 refine jR [11] ?_
 refine jC rfl (fun K hK => ?_) jN
 go_simp
 obtain ⟨⟨a1, n1', H1⟩, Z1⟩ := hHeld
 refine (bF H1.M hm _).mono ?_
 rintro en w3 ⟨rfl, M3, T3⟩
 have H3 := H1.mem M3 T3
 have Z3 := T3.bk Z1 n1 n2
 refine hK.out _ _ ⟨⟨_, n1', H3⟩, Z3⟩ (fun hHeld => ?_)
 clear hK K H1 Z1 M3 T3
 obtain ⟨v1, hv1⟩ : ∃ v, v = ldV L (aEnl c (wrap64 (s.p.h - 1))) := ⟨_, rfl⟩
 simp only [← hv1]
 have HV := Lib.hid hv1
 clear hv1
 try simp only [Act.put, jP]
 refine jT 12 (.pointer (some ⟨gx, 0, none⟩)) rfl hHeld ?_
 try simp only [Act.put, jP]
 refine jT 13 (.pointer (some ⟨gx, 24, none⟩)) rfl hHeld ?_
 try simp only [Act.put, jP]
 refine jR [14] ?_
 refine jC rfl (fun K hK => ?_) jN
 have H4 := H3.set (s' := { s with p := { s.p with n := v1 } }) 24 (.int .u64 v1) rfl
 have xw3 := H3.X.cells
 have zw3 := H3.X.frozen
 have ew3 : (w3.cell? ⟨gx, 24, none⟩).isSome = true := by rw [xw3, f24]; rfl
 have Z4 := Z3.aA (a := ⟨gx, 24, none⟩) n3 (.int .u64 v1)
 go_simp
 refine hK.out _ _ ⟨⟨_, v1, H4⟩, Z4⟩ (fun hHeld => ?_)
 clear hK K H3 xw3 zw3 ew3 Z3 Z4 hHeld
 try simp only [Act.put, jP]
 refine wpAnyH_done ah ?_ _
 generalize w3.setCell ⟨gx, 24, none⟩ (.int .u64 v1) = w4 at *
 have H5 := H4.set (s' := { s with p := { s.p with n := v1, ln := 22 } }) 0 (.int .i64 22) rfl
 exact qa2k
theorem skTopY {B : Nat} {w0 w : World} {g gl cap gx : Nat} {c : Cfg} {a : Acc} {L : List Int} {s : Wk} (h : MX B w0 g gl cap gx c a L s w) (hm : L.length ≤ 1000) (hv : 0 ≤ s.p.v ∧ s.p.v < 18446744073709551616) (hd top : Int) (hb : csB L hd s.p.v = true) :
  Calls Tryz.prog 232 #[.pointer (some ⟨g, 0, none⟩), .pointer (some ⟨gx, 0, none⟩), .int .i64 hd, .int .i64 top] w fun e w' => e = .returned (.int .i64 1) ∧ MX B w0 g gl cap gx c (acc L 3 hd s.p.v (bY top s.p.v)) (csL L hd s.p.v (bY top s.p.v)) s w' := by
 have f25 : ∀ s : Wk, (wc s)[25]? = some (.int .u64 s.p.v) := fun _ => rfl
 have HB := Lib.hid hb
 have HUN := Lib.hid (fun w => Pk.unhead s.p.v hv.1 hv.2 w)
 have hver : IntKind.u64.wrap (s.p.v / 4294967296 + 1) = s.p.v / 4294967296 + 1 := qa4u
 have HVER := Lib.hid hver
 have x0 := h.X.cells
 have lx := h.lt
 have lg := h.M.lt.1
 clear hv hb hver
 go_enter Tryz.func232, Tryz.ntmps232
 go_wp2_with fail
 refine (HUN.out _).mono ?_
 rintro en w1 ⟨rfl, rfl⟩
 go_wp2
 refine aH 10 ah ah ?_
 simp only [List.take_succ_cons, List.take_zero, List.drop_succ_cons, List.drop_zero]
 have hg := @cK
 repeat (go_big_quiet_step (exact bU (Pk.head _ _ _)))
 refine wpQuiet_nil ?_
 rintro w1 ⟨⟨_, hb1⟩, rfl⟩
 clear hg
 simp only [HVER.out]
 have hnw : Pk.hd top (s.p.v / 4294967296 + 1) = bY top s.p.v := rfl
 simp only [hnw]
 have H1 := h.keep hb1
 have hcas := iw H1.M hm hd s.p.v (bY top s.p.v)
 rw [HB.out] at hcas
 have HCA := Lib.hid hcas
 clear hcas x0 lx lg h hb1 hnw
 go_wp2_with fail
 refine HCA.out.mono ?_
 rintro en w2 ⟨rfl, M2, T2⟩
 have H2 := H1.mem M2 T2
 go_wp2
 go_ret
 exact ⟨rfl, H2⟩
theorem skTopN {B : Nat} {w0 w : World} {g gl cap gx : Nat} {c : Cfg} {a : Acc} {L : List Int} {s : Wk} (h : MX B w0 g gl cap gx c a L s w) (hm : L.length ≤ 1000) (hv : 0 ≤ s.p.v ∧ s.p.v < 18446744073709551616) (hd top : Int) (hb : csB L hd s.p.v = false) :
  Calls Tryz.prog 232 #[.pointer (some ⟨g, 0, none⟩), .pointer (some ⟨gx, 0, none⟩), .int .i64 hd, .int .i64 top] w fun e w' => e = .returned (.int .i64 0) ∧ MX B w0 g gl cap gx c (acc L 3 hd s.p.v (bY top s.p.v)) (csL L hd s.p.v (bY top s.p.v)) { s with p := { s.p with ln := wrap64 (s.p.ln - 2) } } w' := by
 have f25 : ∀ s : Wk, (wc s)[25]? = some (.int .u64 s.p.v) := fun _ => rfl
 have f0 : ∀ s : Wk, (wc s)[0]? = some (.int .i64 s.p.ln) := fun _ => rfl
 have HB := Lib.hid hb
 have HUN := Lib.hid (fun w => Pk.unhead s.p.v hv.1 hv.2 w)
 have hver : IntKind.u64.wrap (s.p.v / 4294967296 + 1) = s.p.v / 4294967296 + 1 := qa4u
 have HVER := Lib.hid hver
 have x0 := h.X.cells
 have lx := h.lt
 have lg := h.M.lt.1
 clear hv hb hver
 go_enter Tryz.func232, Tryz.ntmps232
 go_wp2_with fail
 refine (HUN.out _).mono ?_
 rintro en w1 ⟨rfl, rfl⟩
 go_wp2
 refine aH 10 ah ah ?_
 simp only [List.take_succ_cons, List.take_zero, List.drop_succ_cons, List.drop_zero]
 have hg := @cK
 repeat (go_big_quiet_step (exact bU (Pk.head _ _ _)))
 refine wpQuiet_nil ?_
 rintro w1 ⟨⟨_, hb1⟩, rfl⟩
 clear hg
 simp only [HVER.out]
 have hnw : Pk.hd top (s.p.v / 4294967296 + 1) = bY top s.p.v := rfl
 simp only [hnw]
 have H1 := h.keep hb1
 have hcas := iw H1.M hm hd s.p.v (bY top s.p.v)
 rw [HB.out] at hcas
 have HCA := Lib.hid hcas
 clear hcas x0 lx lg h hb1 hnw
 go_wp2_with fail
 refine HCA.out.mono ?_
 rintro en w2 ⟨rfl, M2, T2⟩
 have H2 := H1.mem M2 T2
 have H3 := H2.set (s' := { s with p := { s.p with ln := wrap64 (s.p.ln - 2) } }) 0 (.int .i64 (wrap64 (s.p.ln - 2))) rfl
 have xw2 := H2.X.cells
 have zw2 := H2.X.frozen
 have ew2 : (w2.cell? ⟨gx, 0, none⟩).isSome = true := qa5g
 go_wp2
 go_ret
 exact ⟨rfl, H3⟩
theorem sk12bn {B : Nat} {w0 w : World} {g gl cap gx : Nat} {c : Cfg} {a : Acc} {L : List Int} {s : Wk} (h : MX B w0 g gl cap gx c a L s w) (hm : L.length ≤ 1000) (hL : WR L) (hn : 0 ≤ s.p.n ∧ s.p.n < 18446744073709551616) (hv : 0 ≤ s.p.v ∧ s.p.v < 18446744073709551616) (hl : s.p.ln = 12) (hb : csB L 1 s.p.v = false) : Calls Tryz.prog 229 #[.pointer (some ⟨g, 0, none⟩), .pointer (some ⟨gx, 0, none⟩)] w (LP B w0 g gl cap gx c ⟨acc L 3 1 s.p.v (bY (bM s.p.n - 1) s.p.v), csL L 1 s.p.v (bY (bM s.p.n - 1) s.p.v), { s.p with ln := 10 }, 0, true⟩ s) := by
 have f0 : ∀ s : Wk, (wc s)[0]? = some (.int .i64 s.p.ln) := fun _ => rfl
 have f24 : ∀ s : Wk, (wc s)[24]? = some (.int .u64 s.p.n) := fun _ => rfl
 have f25 : ∀ s : Wk, (wc s)[25]? = some (.int .u64 s.p.v) := fun _ => rfl
 have t10 : (s.p.ln == 10) = false := jB hl
 have t20 : (s.p.ln == 20) = false := jB hl
 have t11 : (s.p.ln == 11) = false := jB hl
 have t21 : (s.p.ln == 21) = false := jB hl
 have t12 : (s.p.ln == 12) = true := jB hl
 have hd : decide (20 ≤ s.p.ln) = false := qa5c
 have HLS := Lib.hid (gG h hd)
 have HTP := Lib.hid (fun w (h : MX B w0 g gl cap gx c a L s w) => skTopN h hm hv 1 (bM s.p.n - 1) hb)
 clear hb hv
 have HUN := Lib.hid (fun w => Pk.unhead s.p.n hn.1 hn.2 w)
 have HLO := Lib.hid (show s.p.n % 4294967296 - 1 = bM s.p.n - 1 from rfl)
 have HW := Lib.hid (show wrap64 (s.p.ln - 2) = 10 by rw [hl]; exact IntWalk.wrap64_in _ aj)
 clear hl hd
 go_enter Tryz.func229, Tryz.ntmps229
 go_wp2_with fail
 refine HLS.out.mono ?_
 rintro en w1 ⟨rfl, hb1⟩
 have hlv : lsv c false s.p = #[.int .i64 1, .func (.func 214) #[cv c] #[], .int .i64 (aD false s.p)] := rfl
 rw [hlv]
 have hb2 : Below w1.heap.size w1 ((w1.alloc (.cells #[.int .i64 0, .nilFunc, .int .i64 0] 222)).setRow w1.heap.size #[.int .i64 1, .func (.func 214) #[cv c] #[], .int .i64 (aD false s.p)]) := below_setRow ((Below.refl _ _).alloc (Nat.le_refl _) _) (Nat.le_refl _) _
 have H2 := (h.keep hb1).keep hb2
 have Z1 := Bk.new w1 #[.int .i64 0, .nilFunc, .int .i64 0] 222
 have Z2 := Z1.setRow #[.int .i64 1, .func (.func 214) #[cv c] #[], .int .i64 (aD false s.p)]
 have lz := (h.keep hb1).lt
 have lgz := (h.keep hb1).M.lt
 have n1 : w1.heap.size ≠ g := aj
 have n2 : w1.heap.size ≠ gl := aj
 have n3 : w1.heap.size ≠ gx := aj
 obtain ⟨w2, hw2⟩ : ∃ u, u = (w1.alloc (.cells #[.int .i64 0, .nilFunc, .int .i64 0] 222)).setRow w1.heap.size #[.int .i64 1, .func (.func 214) #[cv c] #[], .int .i64 (aD false s.p)] := ⟨_, rfl⟩
 rw [← hw2] at H2 Z2
 clear hlv hb1 hb2 h lz lgz HLS
 go_wp2_with (refine wpList_store_row rfl 222 _ _ rfl w1.heap.size #[.int .i64 1, .func (.func 214) #[cv c] #[], .int .i64 (aD false s.p)] rfl rfl _ _ ji ah ah ah ?_; rw [← hw2]; clear hw2 Z1; obtain ⟨gz, hgz⟩ : ∃ u, u = w1.heap.size := ⟨_, rfl⟩; rw [← hgz] at Z2 n1 n2 n3; try rw [← hgz]; clear hgz; have x2 := H2.X.cells; have z2 := Z2.cells)
 exact qa2l
theorem sk12by {B : Nat} {w0 w : World} {g gl cap gx : Nat} {c : Cfg} {a : Acc} {L : List Int} {s : Wk} (h : MX B w0 g gl cap gx c a L s w) (hm : L.length ≤ 1000) (hL : WR L) (hn : 0 ≤ s.p.n ∧ s.p.n < 18446744073709551616) (hv : 0 ≤ s.p.v ∧ s.p.v < 18446744073709551616) (hl : s.p.ln = 12) (hb : csB L 1 s.p.v = true) : Calls Tryz.prog 229 #[.pointer (some ⟨g, 0, none⟩), .pointer (some ⟨gx, 0, none⟩)] w (LP B w0 g gl cap gx c ⟨acc L 3 1 s.p.v (bY (bM s.p.n - 1) s.p.v), csL L 1 s.p.v (bY (bM s.p.n - 1) s.p.v), s.p, 1, true⟩ s) := by
 have f0 : ∀ s : Wk, (wc s)[0]? = some (.int .i64 s.p.ln) := fun _ => rfl
 have f24 : ∀ s : Wk, (wc s)[24]? = some (.int .u64 s.p.n) := fun _ => rfl
 have f25 : ∀ s : Wk, (wc s)[25]? = some (.int .u64 s.p.v) := fun _ => rfl
 have t10 : (s.p.ln == 10) = false := jB hl
 have t20 : (s.p.ln == 20) = false := jB hl
 have t11 : (s.p.ln == 11) = false := jB hl
 have t21 : (s.p.ln == 21) = false := jB hl
 have t12 : (s.p.ln == 12) = true := jB hl
 have hd : decide (20 ≤ s.p.ln) = false := qa5c
 have HLS := Lib.hid (gG h hd)
 have HTP := Lib.hid (fun w (h : MX B w0 g gl cap gx c a L s w) => skTopY h hm hv 1 (bM s.p.n - 1) hb)
 clear hb hv
 have HUN := Lib.hid (fun w => Pk.unhead s.p.n hn.1 hn.2 w)
 have HLO := Lib.hid (show s.p.n % 4294967296 - 1 = bM s.p.n - 1 from rfl)
 clear hl hd
 go_enter Tryz.func229, Tryz.ntmps229
 go_wp2_with fail
 refine HLS.out.mono ?_
 rintro en w1 ⟨rfl, hb1⟩
 have hlv : lsv c false s.p = #[.int .i64 1, .func (.func 214) #[cv c] #[], .int .i64 (aD false s.p)] := rfl
 rw [hlv]
 have hb2 : Below w1.heap.size w1 ((w1.alloc (.cells #[.int .i64 0, .nilFunc, .int .i64 0] 222)).setRow w1.heap.size #[.int .i64 1, .func (.func 214) #[cv c] #[], .int .i64 (aD false s.p)]) := below_setRow ((Below.refl _ _).alloc (Nat.le_refl _) _) (Nat.le_refl _) _
 have H2 := (h.keep hb1).keep hb2
 have Z1 := Bk.new w1 #[.int .i64 0, .nilFunc, .int .i64 0] 222
 have Z2 := Z1.setRow #[.int .i64 1, .func (.func 214) #[cv c] #[], .int .i64 (aD false s.p)]
 have lz := (h.keep hb1).lt
 have lgz := (h.keep hb1).M.lt
 have n1 : w1.heap.size ≠ g := aj
 have n2 : w1.heap.size ≠ gl := aj
 have n3 : w1.heap.size ≠ gx := aj
 obtain ⟨w2, hw2⟩ : ∃ u, u = (w1.alloc (.cells #[.int .i64 0, .nilFunc, .int .i64 0] 222)).setRow w1.heap.size #[.int .i64 1, .func (.func 214) #[cv c] #[], .int .i64 (aD false s.p)] := ⟨_, rfl⟩
 rw [← hw2] at H2 Z2
 clear hlv hb1 hb2 h lz lgz HLS
 go_wp2_with (refine wpList_store_row rfl 222 _ _ rfl w1.heap.size #[.int .i64 1, .func (.func 214) #[cv c] #[], .int .i64 (aD false s.p)] rfl rfl _ _ ji ah ah ah ?_; rw [← hw2]; clear hw2 Z1; obtain ⟨gz, hgz⟩ : ∃ u, u = w1.heap.size := ⟨_, rfl⟩; rw [← hgz] at Z2 n1 n2 n3; try rw [← hgz]; clear hgz; have x2 := H2.X.cells; have z2 := Z2.cells)
 exact qa2m
theorem sk13b {B : Nat} {w0 w : World} {g gl cap gx : Nat} {c : Cfg} {a : Acc} {L : List Int} {s : Wk} (h : MX B w0 g gl cap gx c a L s w) (hm : L.length ≤ 1000) (hL : WR L) (hl : s.p.ln = 13) : Calls Tryz.prog 229 #[.pointer (some ⟨g, 0, none⟩), .pointer (some ⟨gx, 0, none⟩)] w (LP B w0 g gl cap gx c ⟨acc L 1 1 0 0, L, { s.p with v := ldV L 1, ln := 14 }, 0, true⟩ s) := by
 have f0 : ∀ s : Wk, (wc s)[0]? = some (.int .i64 s.p.ln) := fun _ => rfl
 have f25 : ∀ s : Wk, (wc s)[25]? = some (.int .u64 s.p.v) := fun _ => rfl
 have t10 : (s.p.ln == 10) = false := jB hl
 have t20 : (s.p.ln == 20) = false := jB hl
 have t11 : (s.p.ln == 11) = false := jB hl
 have t21 : (s.p.ln == 21) = false := jB hl
 have t12 : (s.p.ln == 12) = false := jB hl
 have t22 : (s.p.ln == 22) = false := jB hl
 have t13 : (s.p.ln == 13) = true := jB hl
 have hd : decide (20 ≤ s.p.ln) = false := qa5c
 have HLS := Lib.hid (gG h hd)
 have hw1 : wrap64 (s.p.ln + 1) = 14 := qa7x
 clear hl hd
 go_enter Tryz.func229, Tryz.ntmps229
 go_wp2_with fail
 refine HLS.out.mono ?_
 rintro en w1 ⟨rfl, hb1⟩
 have hlv : lsv c false s.p = #[.int .i64 1, .func (.func 214) #[cv c] #[], .int .i64 (aD false s.p)] := rfl
 rw [hlv]
 have hb2 : Below w1.heap.size w1 ((w1.alloc (.cells #[.int .i64 0, .nilFunc, .int .i64 0] 222)).setRow w1.heap.size #[.int .i64 1, .func (.func 214) #[cv c] #[], .int .i64 (aD false s.p)]) := below_setRow ((Below.refl _ _).alloc (Nat.le_refl _) _) (Nat.le_refl _) _
 have H2 := (h.keep hb1).keep hb2
 have Z1 := Bk.new w1 #[.int .i64 0, .nilFunc, .int .i64 0] 222
 have Z2 := Z1.setRow #[.int .i64 1, .func (.func 214) #[cv c] #[], .int .i64 (aD false s.p)]
 have lz := (h.keep hb1).lt
 have lgz := (h.keep hb1).M.lt
 have n1 : w1.heap.size ≠ g := aj
 have n2 : w1.heap.size ≠ gl := aj
 have n3 : w1.heap.size ≠ gx := aj
 obtain ⟨w2, hw2⟩ : ∃ u, u = (w1.alloc (.cells #[.int .i64 0, .nilFunc, .int .i64 0] 222)).setRow w1.heap.size #[.int .i64 1, .func (.func 214) #[cv c] #[], .int .i64 (aD false s.p)] := ⟨_, rfl⟩
 rw [← hw2] at H2 Z2
 clear hlv hb1 hb2 h lz lgz HLS
 go_wp2_with (refine wpList_store_row rfl 222 _ _ rfl w1.heap.size #[.int .i64 1, .func (.func 214) #[cv c] #[], .int .i64 (aD false s.p)] rfl rfl _ _ ji ah ah ah ?_; rw [← hw2]; clear hw2 Z1; obtain ⟨gz, hgz⟩ : ∃ u, u = w1.heap.size := ⟨_, rfl⟩; rw [← hgz] at Z2 n1 n2 n3; try rw [← hgz]; clear hgz; have x2 := H2.X.cells; have z2 := Z2.cells)
 refine (bF H2.M hm 1).mono ?_
 rintro en w3 ⟨rfl, M3, T3⟩
 have H3 := H2.mem M3 T3
 obtain ⟨v0, hv0⟩ : ∃ v, v = ldV L 1 := ⟨_, rfl⟩
 simp only [← hv0]
 have HV := Lib.hid hv0
 clear hv0 x2 z2 M3 T3 H2 Z2
 have H4 := H3.set (s' := { s with p := { s.p with v := v0 } }) 25 (.int .u64 v0) rfl
 have xw3 := H3.X.cells
 have zw3 := H3.X.frozen
 have ew3 : (w3.cell? ⟨gx, 25, none⟩).isSome = true := qa5d
 have yw4 : ((w3.setCell ⟨gx, 25, none⟩ (.int .u64 v0)).cell? ⟨gx, 0, none⟩).isSome = true := qa5h
 have H6 := H4.set (s' := { s with p := { s.p with v := v0, ln := 14 } }) 0 (.int .i64 14) rfl
 exact qa2i
theorem sk14b {B : Nat} {w0 w : World} {g gl cap gx : Nat} {c : Cfg} {a : Acc} {L : List Int} {s : Wk} (h : MX B w0 g gl cap gx c a L s w) (hm : L.length ≤ 1000) (hL : WR L) (hf : c.Wf) (hv : 0 ≤ s.p.v ∧ s.p.v < 18446744073709551616) (hl : s.p.ln = 14) : Calls Tryz.prog 229 #[.pointer (some ⟨g, 0, none⟩), .pointer (some ⟨gx, 0, none⟩)] w (LP B w0 g gl cap gx c ⟨acc L 2 (aBlk c (aD false s.p)) (bM s.p.v) 0, stL L (aBlk c (aD false s.p)) (bM s.p.v), { s.p with ln := 15 }, 0, true⟩ s) := by
 have f0 : ∀ s : Wk, (wc s)[0]? = some (.int .i64 s.p.ln) := fun _ => rfl
 have f25 : ∀ s : Wk, (wc s)[25]? = some (.int .u64 s.p.v) := fun _ => rfl
 have t10 : (s.p.ln == 10) = false := jB hl
 have t20 : (s.p.ln == 20) = false := jB hl
 have t11 : (s.p.ln == 11) = false := jB hl
 have t21 : (s.p.ln == 21) = false := jB hl
 have t12 : (s.p.ln == 12) = false := jB hl
 have t22 : (s.p.ln == 22) = false := jB hl
 have t13 : (s.p.ln == 13) = false := jB hl
 have t23 : (s.p.ln == 23) = false := jB hl
 have t14 : (s.p.ln == 14) = true := jB hl
 have hd : decide (20 ≤ s.p.ln) = false := qa5c
 have HLS := Lib.hid (gG h hd)
 have HAD := Lib.hid (fun w => Pl.blockLink c hf (aD false s.p) w)
 have HLW := Lib.hid (fun w => skLow s.p.v hv.1 hv.2 w)
 clear hv
 have hw1 : wrap64 (s.p.ln + 1) = 15 := qa7x
 clear hl hd
 go_enter Tryz.func229, Tryz.ntmps229
 go_wp2_with fail
 refine HLS.out.mono ?_
 rintro en w1 ⟨rfl, hb1⟩
 have hlv : lsv c false s.p = #[.int .i64 1, .func (.func 214) #[cv c] #[], .int .i64 (aD false s.p)] := rfl
 rw [hlv]
 have hb2 : Below w1.heap.size w1 ((w1.alloc (.cells #[.int .i64 0, .nilFunc, .int .i64 0] 222)).setRow w1.heap.size #[.int .i64 1, .func (.func 214) #[cv c] #[], .int .i64 (aD false s.p)]) := below_setRow ((Below.refl _ _).alloc (Nat.le_refl _) _) (Nat.le_refl _) _
 have H2 := (h.keep hb1).keep hb2
 have Z1 := Bk.new w1 #[.int .i64 0, .nilFunc, .int .i64 0] 222
 have Z2 := Z1.setRow #[.int .i64 1, .func (.func 214) #[cv c] #[], .int .i64 (aD false s.p)]
 have lz := (h.keep hb1).lt
 have lgz := (h.keep hb1).M.lt
 have n1 : w1.heap.size ≠ g := aj
 have n2 : w1.heap.size ≠ gl := aj
 have n3 : w1.heap.size ≠ gx := aj
 obtain ⟨w2, hw2⟩ : ∃ u, u = (w1.alloc (.cells #[.int .i64 0, .nilFunc, .int .i64 0] 222)).setRow w1.heap.size #[.int .i64 1, .func (.func 214) #[cv c] #[], .int .i64 (aD false s.p)] := ⟨_, rfl⟩
 rw [← hw2] at H2 Z2
 clear hlv hb1 hb2 h lz lgz HLS
 go_wp2_with (refine wpList_store_row rfl 222 _ _ rfl w1.heap.size #[.int .i64 1, .func (.func 214) #[cv c] #[], .int .i64 (aD false s.p)] rfl rfl _ _ ji ah ah ah ?_; rw [← hw2]; clear hw2 Z1; obtain ⟨gz, hgz⟩ : ∃ u, u = w1.heap.size := ⟨_, rfl⟩; rw [← hgz] at Z2 n1 n2 n3; try rw [← hgz]; clear hgz; have x2 := H2.X.cells; have z2 := Z2.cells)
 have lx2 := H2.lt
 have lz2 := Z2.lt
 refine aH 11 ah ah ?_
 simp only [List.take_succ_cons, List.take_zero, List.drop_succ_cons, List.drop_zero]
 have hg := @cK
 repeat (go_big_quiet_step (first | exact grown_of (HAD.out _) | exact bU (HLW.out _)))
 refine wpQuiet_nil ?_
 rintro w3 ⟨⟨_, hb3⟩, rfl⟩
 clear hg
 have H3 := H2.keep hb3
 clear x2 z2 H2 Z2 lx2 lz2 hb3
 go_wp2_with fail
 refine (iA H3.M hm _ _).mono ?_
 rintro en w4 ⟨rfl, M4, T4⟩
 have H4 := H3.mem M4 T4
 clear H3 M4 T4
 have H5 := H4.set (s' := { s with p := { s.p with ln := 15 } }) 0 (.int .i64 15) rfl
 exact qa2n
theorem sk15bn {B : Nat} {w0 w : World} {g gl cap gx : Nat} {c : Cfg} {a : Acc} {L : List Int} {s : Wk} (h : MX B w0 g gl cap gx c a L s w) (hm : L.length ≤ 1000) (hL : WR L) (hv : 0 ≤ s.p.v ∧ s.p.v < 18446744073709551616) (hl : s.p.ln = 15) (hb : csB L 1 s.p.v = false) : Calls Tryz.prog 229 #[.pointer (some ⟨g, 0, none⟩), .pointer (some ⟨gx, 0, none⟩)] w (LP B w0 g gl cap gx c ⟨acc L 3 1 s.p.v (bY (aD false s.p) s.p.v), csL L 1 s.p.v (bY (aD false s.p) s.p.v), { s.p with ln := 13 }, 0, true⟩ s) := by
 have f0 : ∀ s : Wk, (wc s)[0]? = some (.int .i64 s.p.ln) := fun _ => rfl
 have f24 : ∀ s : Wk, (wc s)[24]? = some (.int .u64 s.p.n) := fun _ => rfl
 have f25 : ∀ s : Wk, (wc s)[25]? = some (.int .u64 s.p.v) := fun _ => rfl
 have t10 : (s.p.ln == 10) = false := jB hl
 have t20 : (s.p.ln == 20) = false := jB hl
 have t11 : (s.p.ln == 11) = false := jB hl
 have t21 : (s.p.ln == 21) = false := jB hl
 have t12 : (s.p.ln == 12) = false := jB hl
 have t22 : (s.p.ln == 22) = false := jB hl
 have t13 : (s.p.ln == 13) = false := jB hl
 have t23 : (s.p.ln == 23) = false := jB hl
 have t14 : (s.p.ln == 14) = false := jB hl
 have t24 : (s.p.ln == 24) = false := jB hl
 have t15 : (s.p.ln == 15) = true := jB hl
 have hd : decide (20 ≤ s.p.ln) = false := qa5c
 have HLS := Lib.hid (gG h hd)
 have HTP := Lib.hid (fun w (h : MX B w0 g gl cap gx c a L s w) => skTopN h hm hv 1 (aD false s.p) hb)
 clear hb hv
 have HW := Lib.hid (show wrap64 (s.p.ln - 2) = 13 by rw [hl]; exact IntWalk.wrap64_in _ aj)
 clear hl hd
 go_enter Tryz.func229, Tryz.ntmps229
 go_wp2_with fail
 refine HLS.out.mono ?_
 rintro en w1 ⟨rfl, hb1⟩
 have hlv : lsv c false s.p = #[.int .i64 1, .func (.func 214) #[cv c] #[], .int .i64 (aD false s.p)] := rfl
 rw [hlv]
 have hb2 : Below w1.heap.size w1 ((w1.alloc (.cells #[.int .i64 0, .nilFunc, .int .i64 0] 222)).setRow w1.heap.size #[.int .i64 1, .func (.func 214) #[cv c] #[], .int .i64 (aD false s.p)]) := below_setRow ((Below.refl _ _).alloc (Nat.le_refl _) _) (Nat.le_refl _) _
 have H2 := (h.keep hb1).keep hb2
 have Z1 := Bk.new w1 #[.int .i64 0, .nilFunc, .int .i64 0] 222
 have Z2 := Z1.setRow #[.int .i64 1, .func (.func 214) #[cv c] #[], .int .i64 (aD false s.p)]
 have lz := (h.keep hb1).lt
 have lgz := (h.keep hb1).M.lt
 have n1 : w1.heap.size ≠ g := aj
 have n2 : w1.heap.size ≠ gl := aj
 have n3 : w1.heap.size ≠ gx := aj
 obtain ⟨w2, hw2⟩ : ∃ u, u = (w1.alloc (.cells #[.int .i64 0, .nilFunc, .int .i64 0] 222)).setRow w1.heap.size #[.int .i64 1, .func (.func 214) #[cv c] #[], .int .i64 (aD false s.p)] := ⟨_, rfl⟩
 rw [← hw2] at H2 Z2
 clear hlv hb1 hb2 h lz lgz HLS
 go_wp2_with (refine wpList_store_row rfl 222 _ _ rfl w1.heap.size #[.int .i64 1, .func (.func 214) #[cv c] #[], .int .i64 (aD false s.p)] rfl rfl _ _ ji ah ah ah ?_; rw [← hw2]; clear hw2 Z1; obtain ⟨gz, hgz⟩ : ∃ u, u = w1.heap.size := ⟨_, rfl⟩; rw [← hgz] at Z2 n1 n2 n3; try rw [← hgz]; clear hgz; have x2 := H2.X.cells; have z2 := Z2.cells)
 exact qa2o
theorem sk15by {B : Nat} {w0 w : World} {g gl cap gx : Nat} {c : Cfg} {a : Acc} {L : List Int} {s : Wk} (h : MX B w0 g gl cap gx c a L s w) (hm : L.length ≤ 1000) (hL : WR L) (hv : 0 ≤ s.p.v ∧ s.p.v < 18446744073709551616) (hl : s.p.ln = 15) (hb : csB L 1 s.p.v = true) : Calls Tryz.prog 229 #[.pointer (some ⟨g, 0, none⟩), .pointer (some ⟨gx, 0, none⟩)] w (LP B w0 g gl cap gx c ⟨acc L 3 1 s.p.v (bY (aD false s.p) s.p.v), csL L 1 s.p.v (bY (aD false s.p) s.p.v), s.p, 1, true⟩ s) := by
 have f0 : ∀ s : Wk, (wc s)[0]? = some (.int .i64 s.p.ln) := fun _ => rfl
 have f24 : ∀ s : Wk, (wc s)[24]? = some (.int .u64 s.p.n) := fun _ => rfl
 have f25 : ∀ s : Wk, (wc s)[25]? = some (.int .u64 s.p.v) := fun _ => rfl
 have t10 : (s.p.ln == 10) = false := jB hl
 have t20 : (s.p.ln == 20) = false := jB hl
 have t11 : (s.p.ln == 11) = false := jB hl
 have t21 : (s.p.ln == 21) = false := jB hl
 have t12 : (s.p.ln == 12) = false := jB hl
 have t22 : (s.p.ln == 22) = false := jB hl
 have t13 : (s.p.ln == 13) = false := jB hl
 have t23 : (s.p.ln == 23) = false := jB hl
 have t14 : (s.p.ln == 14) = false := jB hl
 have t24 : (s.p.ln == 24) = false := jB hl
 have t15 : (s.p.ln == 15) = true := jB hl
 have hd : decide (20 ≤ s.p.ln) = false := qa5c
 have HLS := Lib.hid (gG h hd)
 have HTP := Lib.hid (fun w (h : MX B w0 g gl cap gx c a L s w) => skTopY h hm hv 1 (aD false s.p) hb)
 clear hb hv
 clear hl hd
 go_enter Tryz.func229, Tryz.ntmps229
 go_wp2_with fail
 refine HLS.out.mono ?_
 rintro en w1 ⟨rfl, hb1⟩
 have hlv : lsv c false s.p = #[.int .i64 1, .func (.func 214) #[cv c] #[], .int .i64 (aD false s.p)] := rfl
 rw [hlv]
 have hb2 : Below w1.heap.size w1 ((w1.alloc (.cells #[.int .i64 0, .nilFunc, .int .i64 0] 222)).setRow w1.heap.size #[.int .i64 1, .func (.func 214) #[cv c] #[], .int .i64 (aD false s.p)]) := below_setRow ((Below.refl _ _).alloc (Nat.le_refl _) _) (Nat.le_refl _) _
 have H2 := (h.keep hb1).keep hb2
 have Z1 := Bk.new w1 #[.int .i64 0, .nilFunc, .int .i64 0] 222
 have Z2 := Z1.setRow #[.int .i64 1, .func (.func 214) #[cv c] #[], .int .i64 (aD false s.p)]
 have lz := (h.keep hb1).lt
 have lgz := (h.keep hb1).M.lt
 have n1 : w1.heap.size ≠ g := aj
 have n2 : w1.heap.size ≠ gl := aj
 have n3 : w1.heap.size ≠ gx := aj
 obtain ⟨w2, hw2⟩ : ∃ u, u = (w1.alloc (.cells #[.int .i64 0, .nilFunc, .int .i64 0] 222)).setRow w1.heap.size #[.int .i64 1, .func (.func 214) #[cv c] #[], .int .i64 (aD false s.p)] := ⟨_, rfl⟩
 rw [← hw2] at H2 Z2
 clear hlv hb1 hb2 h lz lgz HLS
 go_wp2_with (refine wpList_store_row rfl 222 _ _ rfl w1.heap.size #[.int .i64 1, .func (.func 214) #[cv c] #[], .int .i64 (aD false s.p)] rfl rfl _ _ ji ah ah ah ?_; rw [← hw2]; clear hw2 Z1; obtain ⟨gz, hgz⟩ : ∃ u, u = w1.heap.size := ⟨_, rfl⟩; rw [← hgz] at Z2 n1 n2 n3; try rw [← hgz]; clear hgz; have x2 := H2.X.cells; have z2 := Z2.cells)
 exact qa2p
theorem sk12en {B : Nat} {w0 w : World} {g gl cap gx : Nat} {c : Cfg} {a : Acc} {L : List Int} {s : Wk} (h : MX B w0 g gl cap gx c a L s w) (hm : L.length ≤ 1000) (hL : WR L) (hn : 0 ≤ s.p.n ∧ s.p.n < 18446744073709551616) (hv : 0 ≤ s.p.v ∧ s.p.v < 18446744073709551616) (hl : s.p.ln = 22) (hb : csB L 2 s.p.v = false) : Calls Tryz.prog 229 #[.pointer (some ⟨g, 0, none⟩), .pointer (some ⟨gx, 0, none⟩)] w (LP B w0 g gl cap gx c ⟨acc L 3 2 s.p.v (bY (bM s.p.n - 1) s.p.v), csL L 2 s.p.v (bY (bM s.p.n - 1) s.p.v), { s.p with ln := 20 }, 0, true⟩ s) := by
 have f0 : ∀ s : Wk, (wc s)[0]? = some (.int .i64 s.p.ln) := fun _ => rfl
 have f24 : ∀ s : Wk, (wc s)[24]? = some (.int .u64 s.p.n) := fun _ => rfl
 have f25 : ∀ s : Wk, (wc s)[25]? = some (.int .u64 s.p.v) := fun _ => rfl
 have t10 : (s.p.ln == 10) = false := jB hl
 have t20 : (s.p.ln == 20) = false := jB hl
 have t11 : (s.p.ln == 11) = false := jB hl
 have t21 : (s.p.ln == 21) = false := jB hl
 have t12 : (s.p.ln == 12) = false := jB hl
 have t22 : (s.p.ln == 22) = true := jB hl
 have hd : decide (20 ≤ s.p.ln) = true := qa5c
 have HLS := Lib.hid (gF h hd)
 have HTP := Lib.hid (fun w (h : MX B w0 g gl cap gx c a L s w) => skTopN h hm hv 2 (bM s.p.n - 1) hb)
 clear hb hv
 have HUN := Lib.hid (fun w => Pk.unhead s.p.n hn.1 hn.2 w)
 have HLO := Lib.hid (show s.p.n % 4294967296 - 1 = bM s.p.n - 1 from rfl)
 have HW := Lib.hid (show wrap64 (s.p.ln - 2) = 20 by rw [hl]; exact IntWalk.wrap64_in _ aj)
 clear hl hd
 go_enter Tryz.func229, Tryz.ntmps229
 go_wp2_with fail
 refine HLS.out.mono ?_
 rintro en w1 ⟨rfl, hb1⟩
 have hlv : lsv c true s.p = #[.int .i64 2, .func (.func 97) #[cv c] #[], .int .i64 (aD true s.p)] := rfl
 rw [hlv]
 have hb2 : Below w1.heap.size w1 ((w1.alloc (.cells #[.int .i64 0, .nilFunc, .int .i64 0] 222)).setRow w1.heap.size #[.int .i64 2, .func (.func 97) #[cv c] #[], .int .i64 (aD true s.p)]) := below_setRow ((Below.refl _ _).alloc (Nat.le_refl _) _) (Nat.le_refl _) _
 have H2 := (h.keep hb1).keep hb2
 have Z1 := Bk.new w1 #[.int .i64 0, .nilFunc, .int .i64 0] 222
 have Z2 := Z1.setRow #[.int .i64 2, .func (.func 97) #[cv c] #[], .int .i64 (aD true s.p)]
 have lz := (h.keep hb1).lt
 have lgz := (h.keep hb1).M.lt
 have n1 : w1.heap.size ≠ g := aj
 have n2 : w1.heap.size ≠ gl := aj
 have n3 : w1.heap.size ≠ gx := aj
 obtain ⟨w2, hw2⟩ : ∃ u, u = (w1.alloc (.cells #[.int .i64 0, .nilFunc, .int .i64 0] 222)).setRow w1.heap.size #[.int .i64 2, .func (.func 97) #[cv c] #[], .int .i64 (aD true s.p)] := ⟨_, rfl⟩
 rw [← hw2] at H2 Z2
 clear hlv hb1 hb2 h lz lgz HLS
 go_wp2_with (refine wpList_store_row rfl 222 _ _ rfl w1.heap.size #[.int .i64 2, .func (.func 97) #[cv c] #[], .int .i64 (aD true s.p)] rfl rfl _ _ ji ah ah ah ?_; rw [← hw2]; clear hw2 Z1; obtain ⟨gz, hgz⟩ : ∃ u, u = w1.heap.size := ⟨_, rfl⟩; rw [← hgz] at Z2 n1 n2 n3; try rw [← hgz]; clear hgz; have x2 := H2.X.cells; have z2 := Z2.cells)
 exact qa2l
theorem sk12ey {B : Nat} {w0 w : World} {g gl cap gx : Nat} {c : Cfg} {a : Acc} {L : List Int} {s : Wk} (h : MX B w0 g gl cap gx c a L s w) (hm : L.length ≤ 1000) (hL : WR L) (hn : 0 ≤ s.p.n ∧ s.p.n < 18446744073709551616) (hv : 0 ≤ s.p.v ∧ s.p.v < 18446744073709551616) (hl : s.p.ln = 22) (hb : csB L 2 s.p.v = true) : Calls Tryz.prog 229 #[.pointer (some ⟨g, 0, none⟩), .pointer (some ⟨gx, 0, none⟩)] w (LP B w0 g gl cap gx c ⟨acc L 3 2 s.p.v (bY (bM s.p.n - 1) s.p.v), csL L 2 s.p.v (bY (bM s.p.n - 1) s.p.v), s.p, 1, true⟩ s) := by
 have f0 : ∀ s : Wk, (wc s)[0]? = some (.int .i64 s.p.ln) := fun _ => rfl
 have f24 : ∀ s : Wk, (wc s)[24]? = some (.int .u64 s.p.n) := fun _ => rfl
 have f25 : ∀ s : Wk, (wc s)[25]? = some (.int .u64 s.p.v) := fun _ => rfl
 have t10 : (s.p.ln == 10) = false := jB hl
 have t20 : (s.p.ln == 20) = false := jB hl
 have t11 : (s.p.ln == 11) = false := jB hl
 have t21 : (s.p.ln == 21) = false := jB hl
 have t12 : (s.p.ln == 12) = false := jB hl
 have t22 : (s.p.ln == 22) = true := jB hl
 have hd : decide (20 ≤ s.p.ln) = true := qa5c
 have HLS := Lib.hid (gF h hd)
 have HTP := Lib.hid (fun w (h : MX B w0 g gl cap gx c a L s w) => skTopY h hm hv 2 (bM s.p.n - 1) hb)
 clear hb hv
 have HUN := Lib.hid (fun w => Pk.unhead s.p.n hn.1 hn.2 w)
 have HLO := Lib.hid (show s.p.n % 4294967296 - 1 = bM s.p.n - 1 from rfl)
 clear hl hd
 go_enter Tryz.func229, Tryz.ntmps229
 go_wp2_with fail
 refine HLS.out.mono ?_
 rintro en w1 ⟨rfl, hb1⟩
 have hlv : lsv c true s.p = #[.int .i64 2, .func (.func 97) #[cv c] #[], .int .i64 (aD true s.p)] := rfl
 rw [hlv]
 have hb2 : Below w1.heap.size w1 ((w1.alloc (.cells #[.int .i64 0, .nilFunc, .int .i64 0] 222)).setRow w1.heap.size #[.int .i64 2, .func (.func 97) #[cv c] #[], .int .i64 (aD true s.p)]) := below_setRow ((Below.refl _ _).alloc (Nat.le_refl _) _) (Nat.le_refl _) _
 have H2 := (h.keep hb1).keep hb2
 have Z1 := Bk.new w1 #[.int .i64 0, .nilFunc, .int .i64 0] 222
 have Z2 := Z1.setRow #[.int .i64 2, .func (.func 97) #[cv c] #[], .int .i64 (aD true s.p)]
 have lz := (h.keep hb1).lt
 have lgz := (h.keep hb1).M.lt
 have n1 : w1.heap.size ≠ g := aj
 have n2 : w1.heap.size ≠ gl := aj
 have n3 : w1.heap.size ≠ gx := aj
 obtain ⟨w2, hw2⟩ : ∃ u, u = (w1.alloc (.cells #[.int .i64 0, .nilFunc, .int .i64 0] 222)).setRow w1.heap.size #[.int .i64 2, .func (.func 97) #[cv c] #[], .int .i64 (aD true s.p)] := ⟨_, rfl⟩
 rw [← hw2] at H2 Z2
 clear hlv hb1 hb2 h lz lgz HLS
 go_wp2_with (refine wpList_store_row rfl 222 _ _ rfl w1.heap.size #[.int .i64 2, .func (.func 97) #[cv c] #[], .int .i64 (aD true s.p)] rfl rfl _ _ ji ah ah ah ?_; rw [← hw2]; clear hw2 Z1; obtain ⟨gz, hgz⟩ : ∃ u, u = w1.heap.size := ⟨_, rfl⟩; rw [← hgz] at Z2 n1 n2 n3; try rw [← hgz]; clear hgz; have x2 := H2.X.cells; have z2 := Z2.cells)
 exact qa2m
theorem sk13e {B : Nat} {w0 w : World} {g gl cap gx : Nat} {c : Cfg} {a : Acc} {L : List Int} {s : Wk} (h : MX B w0 g gl cap gx c a L s w) (hm : L.length ≤ 1000) (hL : WR L) (hl : s.p.ln = 23) : Calls Tryz.prog 229 #[.pointer (some ⟨g, 0, none⟩), .pointer (some ⟨gx, 0, none⟩)] w (LP B w0 g gl cap gx c ⟨acc L 1 2 0 0, L, { s.p with v := ldV L 2, ln := 24 }, 0, true⟩ s) := by
 have f0 : ∀ s : Wk, (wc s)[0]? = some (.int .i64 s.p.ln) := fun _ => rfl
 have f25 : ∀ s : Wk, (wc s)[25]? = some (.int .u64 s.p.v) := fun _ => rfl
 have t10 : (s.p.ln == 10) = false := jB hl
 have t20 : (s.p.ln == 20) = false := jB hl
 have t11 : (s.p.ln == 11) = false := jB hl
 have t21 : (s.p.ln == 21) = false := jB hl
 have t12 : (s.p.ln == 12) = false := jB hl
 have t22 : (s.p.ln == 22) = false := jB hl
 have t13 : (s.p.ln == 13) = false := jB hl
 have t23 : (s.p.ln == 23) = true := jB hl
 have hd : decide (20 ≤ s.p.ln) = true := qa5c
 have HLS := Lib.hid (gF h hd)
 have hw1 : wrap64 (s.p.ln + 1) = 24 := qa7x
 clear hl hd
 go_enter Tryz.func229, Tryz.ntmps229
 go_wp2_with fail
 refine HLS.out.mono ?_
 rintro en w1 ⟨rfl, hb1⟩
 have hlv : lsv c true s.p = #[.int .i64 2, .func (.func 97) #[cv c] #[], .int .i64 (aD true s.p)] := rfl
 rw [hlv]
 have hb2 : Below w1.heap.size w1 ((w1.alloc (.cells #[.int .i64 0, .nilFunc, .int .i64 0] 222)).setRow w1.heap.size #[.int .i64 2, .func (.func 97) #[cv c] #[], .int .i64 (aD true s.p)]) := below_setRow ((Below.refl _ _).alloc (Nat.le_refl _) _) (Nat.le_refl _) _
 have H2 := (h.keep hb1).keep hb2
 have Z1 := Bk.new w1 #[.int .i64 0, .nilFunc, .int .i64 0] 222
 have Z2 := Z1.setRow #[.int .i64 2, .func (.func 97) #[cv c] #[], .int .i64 (aD true s.p)]
 have lz := (h.keep hb1).lt
 have lgz := (h.keep hb1).M.lt
 have n1 : w1.heap.size ≠ g := aj
 have n2 : w1.heap.size ≠ gl := aj
 have n3 : w1.heap.size ≠ gx := aj
 obtain ⟨w2, hw2⟩ : ∃ u, u = (w1.alloc (.cells #[.int .i64 0, .nilFunc, .int .i64 0] 222)).setRow w1.heap.size #[.int .i64 2, .func (.func 97) #[cv c] #[], .int .i64 (aD true s.p)] := ⟨_, rfl⟩
 rw [← hw2] at H2 Z2
 clear hlv hb1 hb2 h lz lgz HLS
 go_wp2_with (refine wpList_store_row rfl 222 _ _ rfl w1.heap.size #[.int .i64 2, .func (.func 97) #[cv c] #[], .int .i64 (aD true s.p)] rfl rfl _ _ ji ah ah ah ?_; rw [← hw2]; clear hw2 Z1; obtain ⟨gz, hgz⟩ : ∃ u, u = w1.heap.size := ⟨_, rfl⟩; rw [← hgz] at Z2 n1 n2 n3; try rw [← hgz]; clear hgz; have x2 := H2.X.cells; have z2 := Z2.cells)
 refine (bF H2.M hm 2).mono ?_
 rintro en w3 ⟨rfl, M3, T3⟩
 have H3 := H2.mem M3 T3
 obtain ⟨v0, hv0⟩ : ∃ v, v = ldV L 2 := ⟨_, rfl⟩
 simp only [← hv0]
 have HV := Lib.hid hv0
 clear hv0 x2 z2 M3 T3 H2 Z2
 have H4 := H3.set (s' := { s with p := { s.p with v := v0 } }) 25 (.int .u64 v0) rfl
 have xw3 := H3.X.cells
 have zw3 := H3.X.frozen
 have ew3 : (w3.cell? ⟨gx, 25, none⟩).isSome = true := qa5d
 have yw4 : ((w3.setCell ⟨gx, 25, none⟩ (.int .u64 v0)).cell? ⟨gx, 0, none⟩).isSome = true := qa5h
 have H6 := H4.set (s' := { s with p := { s.p with v := v0, ln := 24 } }) 0 (.int .i64 24) rfl
 exact qa2i
theorem sk14e {B : Nat} {w0 w : World} {g gl cap gx : Nat} {c : Cfg} {a : Acc} {L : List Int} {s : Wk} (h : MX B w0 g gl cap gx c a L s w) (hm : L.length ≤ 1000) (hL : WR L) (hf : c.Wf) (hv : 0 ≤ s.p.v ∧ s.p.v < 18446744073709551616) (hl : s.p.ln = 24) : Calls Tryz.prog 229 #[.pointer (some ⟨g, 0, none⟩), .pointer (some ⟨gx, 0, none⟩)] w (LP B w0 g gl cap gx c ⟨acc L 2 (aEnl c (aD true s.p)) (bM s.p.v) 0, stL L (aEnl c (aD true s.p)) (bM s.p.v), { s.p with ln := 25 }, 0, true⟩ s) := by
 have f0 : ∀ s : Wk, (wc s)[0]? = some (.int .i64 s.p.ln) := fun _ => rfl
 have f25 : ∀ s : Wk, (wc s)[25]? = some (.int .u64 s.p.v) := fun _ => rfl
 have t10 : (s.p.ln == 10) = false := jB hl
 have t20 : (s.p.ln == 20) = false := jB hl
 have t11 : (s.p.ln == 11) = false := jB hl
 have t21 : (s.p.ln == 21) = false := jB hl
 have t12 : (s.p.ln == 12) = false := jB hl
 have t22 : (s.p.ln == 22) = false := jB hl
 have t13 : (s.p.ln == 13) = false := jB hl
 have t23 : (s.p.ln == 23) = false := jB hl
 have t14 : (s.p.ln == 14) = false := jB hl
 have t24 : (s.p.ln == 24) = true := jB hl
 have hd : decide (20 ≤ s.p.ln) = true := qa5c
 have HLS := Lib.hid (gF h hd)
 have HAD := Lib.hid (fun w => Pl.entryLink c hf (aD true s.p) w)
 have HLW := Lib.hid (fun w => skLow s.p.v hv.1 hv.2 w)
 clear hv
 have hw1 : wrap64 (s.p.ln + 1) = 25 := qa7x
 clear hl hd
 go_enter Tryz.func229, Tryz.ntmps229
 go_wp2_with fail
 refine HLS.out.mono ?_
 rintro en w1 ⟨rfl, hb1⟩
 have hlv : lsv c true s.p = #[.int .i64 2, .func (.func 97) #[cv c] #[], .int .i64 (aD true s.p)] := rfl
 rw [hlv]
 have hb2 : Below w1.heap.size w1 ((w1.alloc (.cells #[.int .i64 0, .nilFunc, .int .i64 0] 222)).setRow w1.heap.size #[.int .i64 2, .func (.func 97) #[cv c] #[], .int .i64 (aD true s.p)]) := below_setRow ((Below.refl _ _).alloc (Nat.le_refl _) _) (Nat.le_refl _) _
 have H2 := (h.keep hb1).keep hb2
 have Z1 := Bk.new w1 #[.int .i64 0, .nilFunc, .int .i64 0] 222
 have Z2 := Z1.setRow #[.int .i64 2, .func (.func 97) #[cv c] #[], .int .i64 (aD true s.p)]
 have lz := (h.keep hb1).lt
 have lgz := (h.keep hb1).M.lt
 have n1 : w1.heap.size ≠ g := aj
 have n2 : w1.heap.size ≠ gl := aj
 have n3 : w1.heap.size ≠ gx := aj
 obtain ⟨w2, hw2⟩ : ∃ u, u = (w1.alloc (.cells #[.int .i64 0, .nilFunc, .int .i64 0] 222)).setRow w1.heap.size #[.int .i64 2, .func (.func 97) #[cv c] #[], .int .i64 (aD true s.p)] := ⟨_, rfl⟩
 rw [← hw2] at H2 Z2
 clear hlv hb1 hb2 h lz lgz HLS
 go_wp2_with (refine wpList_store_row rfl 222 _ _ rfl w1.heap.size #[.int .i64 2, .func (.func 97) #[cv c] #[], .int .i64 (aD true s.p)] rfl rfl _ _ ji ah ah ah ?_; rw [← hw2]; clear hw2 Z1; obtain ⟨gz, hgz⟩ : ∃ u, u = w1.heap.size := ⟨_, rfl⟩; rw [← hgz] at Z2 n1 n2 n3; try rw [← hgz]; clear hgz; have x2 := H2.X.cells; have z2 := Z2.cells)
 have lx2 := H2.lt
 have lz2 := Z2.lt
 refine aH 11 ah ah ?_
 simp only [List.take_succ_cons, List.take_zero, List.drop_succ_cons, List.drop_zero]
 have hg := @cK
 repeat (go_big_quiet_step (first | exact grown_of (HAD.out _) | exact bU (HLW.out _)))
 refine wpQuiet_nil ?_
 rintro w3 ⟨⟨_, hb3⟩, rfl⟩
 clear hg
 have H3 := H2.keep hb3
 clear x2 z2 H2 Z2 lx2 lz2 hb3
 go_wp2_with fail
 refine (iA H3.M hm _ _).mono ?_
 rintro en w4 ⟨rfl, M4, T4⟩
 have H4 := H3.mem M4 T4
 clear H3 M4 T4
 have H5 := H4.set (s' := { s with p := { s.p with ln := 25 } }) 0 (.int .i64 25) rfl
 exact qa2n
theorem sk15en {B : Nat} {w0 w : World} {g gl cap gx : Nat} {c : Cfg} {a : Acc} {L : List Int} {s : Wk} (h : MX B w0 g gl cap gx c a L s w) (hm : L.length ≤ 1000) (hL : WR L) (hv : 0 ≤ s.p.v ∧ s.p.v < 18446744073709551616) (hl : s.p.ln = 25) (hb : csB L 2 s.p.v = false) : Calls Tryz.prog 229 #[.pointer (some ⟨g, 0, none⟩), .pointer (some ⟨gx, 0, none⟩)] w (LP B w0 g gl cap gx c ⟨acc L 3 2 s.p.v (bY (aD true s.p) s.p.v), csL L 2 s.p.v (bY (aD true s.p) s.p.v), { s.p with ln := 23 }, 0, true⟩ s) := by
 have f0 : ∀ s : Wk, (wc s)[0]? = some (.int .i64 s.p.ln) := fun _ => rfl
 have f24 : ∀ s : Wk, (wc s)[24]? = some (.int .u64 s.p.n) := fun _ => rfl
 have f25 : ∀ s : Wk, (wc s)[25]? = some (.int .u64 s.p.v) := fun _ => rfl
 have t10 : (s.p.ln == 10) = false := jB hl
 have t20 : (s.p.ln == 20) = false := jB hl
 have t11 : (s.p.ln == 11) = false := jB hl
 have t21 : (s.p.ln == 21) = false := jB hl
 have t12 : (s.p.ln == 12) = false := jB hl
 have t22 : (s.p.ln == 22) = false := jB hl
 have t13 : (s.p.ln == 13) = false := jB hl
 have t23 : (s.p.ln == 23) = false := jB hl
 have t14 : (s.p.ln == 14) = false := jB hl
 have t24 : (s.p.ln == 24) = false := jB hl
 have t15 : (s.p.ln == 15) = false := jB hl
 have t25 : (s.p.ln == 25) = true := jB hl
 have hd : decide (20 ≤ s.p.ln) = true := qa5c
 have HLS := Lib.hid (gF h hd)
 have HTP := Lib.hid (fun w (h : MX B w0 g gl cap gx c a L s w) => skTopN h hm hv 2 (aD true s.p) hb)
 clear hb hv
 have HW := Lib.hid (show wrap64 (s.p.ln - 2) = 23 by rw [hl]; exact IntWalk.wrap64_in _ aj)
 clear hl hd
 go_enter Tryz.func229, Tryz.ntmps229
 go_wp2_with fail
 refine HLS.out.mono ?_
 rintro en w1 ⟨rfl, hb1⟩
 have hlv : lsv c true s.p = #[.int .i64 2, .func (.func 97) #[cv c] #[], .int .i64 (aD true s.p)] := rfl
 rw [hlv]
 have hb2 : Below w1.heap.size w1 ((w1.alloc (.cells #[.int .i64 0, .nilFunc, .int .i64 0] 222)).setRow w1.heap.size #[.int .i64 2, .func (.func 97) #[cv c] #[], .int .i64 (aD true s.p)]) := below_setRow ((Below.refl _ _).alloc (Nat.le_refl _) _) (Nat.le_refl _) _
 have H2 := (h.keep hb1).keep hb2
 have Z1 := Bk.new w1 #[.int .i64 0, .nilFunc, .int .i64 0] 222
 have Z2 := Z1.setRow #[.int .i64 2, .func (.func 97) #[cv c] #[], .int .i64 (aD true s.p)]
 have lz := (h.keep hb1).lt
 have lgz := (h.keep hb1).M.lt
 have n1 : w1.heap.size ≠ g := aj
 have n2 : w1.heap.size ≠ gl := aj
 have n3 : w1.heap.size ≠ gx := aj
 obtain ⟨w2, hw2⟩ : ∃ u, u = (w1.alloc (.cells #[.int .i64 0, .nilFunc, .int .i64 0] 222)).setRow w1.heap.size #[.int .i64 2, .func (.func 97) #[cv c] #[], .int .i64 (aD true s.p)] := ⟨_, rfl⟩
 rw [← hw2] at H2 Z2
 clear hlv hb1 hb2 h lz lgz HLS
 go_wp2_with (refine wpList_store_row rfl 222 _ _ rfl w1.heap.size #[.int .i64 2, .func (.func 97) #[cv c] #[], .int .i64 (aD true s.p)] rfl rfl _ _ ji ah ah ah ?_; rw [← hw2]; clear hw2 Z1; obtain ⟨gz, hgz⟩ : ∃ u, u = w1.heap.size := ⟨_, rfl⟩; rw [← hgz] at Z2 n1 n2 n3; try rw [← hgz]; clear hgz; have x2 := H2.X.cells; have z2 := Z2.cells)
 exact qa2o
theorem sk15ey {B : Nat} {w0 w : World} {g gl cap gx : Nat} {c : Cfg} {a : Acc} {L : List Int} {s : Wk} (h : MX B w0 g gl cap gx c a L s w) (hm : L.length ≤ 1000) (hL : WR L) (hv : 0 ≤ s.p.v ∧ s.p.v < 18446744073709551616) (hl : s.p.ln = 25) (hb : csB L 2 s.p.v = true) : Calls Tryz.prog 229 #[.pointer (some ⟨g, 0, none⟩), .pointer (some ⟨gx, 0, none⟩)] w (LP B w0 g gl cap gx c ⟨acc L 3 2 s.p.v (bY (aD true s.p) s.p.v), csL L 2 s.p.v (bY (aD true s.p) s.p.v), s.p, 1, true⟩ s) := by
 have f0 : ∀ s : Wk, (wc s)[0]? = some (.int .i64 s.p.ln) := fun _ => rfl
 have f24 : ∀ s : Wk, (wc s)[24]? = some (.int .u64 s.p.n) := fun _ => rfl
 have f25 : ∀ s : Wk, (wc s)[25]? = some (.int .u64 s.p.v) := fun _ => rfl
 have t10 : (s.p.ln == 10) = false := jB hl
 have t20 : (s.p.ln == 20) = false := jB hl
 have t11 : (s.p.ln == 11) = false := jB hl
 have t21 : (s.p.ln == 21) = false := jB hl
 have t12 : (s.p.ln == 12) = false := jB hl
 have t22 : (s.p.ln == 22) = false := jB hl
 have t13 : (s.p.ln == 13) = false := jB hl
 have t23 : (s.p.ln == 23) = false := jB hl
 have t14 : (s.p.ln == 14) = false := jB hl
 have t24 : (s.p.ln == 24) = false := jB hl
 have t15 : (s.p.ln == 15) = false := jB hl
 have t25 : (s.p.ln == 25) = true := jB hl
 have hd : decide (20 ≤ s.p.ln) = true := qa5c
 have HLS := Lib.hid (gF h hd)
 have HTP := Lib.hid (fun w (h : MX B w0 g gl cap gx c a L s w) => skTopY h hm hv 2 (aD true s.p) hb)
 clear hb hv
 clear hl hd
 go_enter Tryz.func229, Tryz.ntmps229
 go_wp2_with fail
 refine HLS.out.mono ?_
 rintro en w1 ⟨rfl, hb1⟩
 have hlv : lsv c true s.p = #[.int .i64 2, .func (.func 97) #[cv c] #[], .int .i64 (aD true s.p)] := rfl
 rw [hlv]
 have hb2 : Below w1.heap.size w1 ((w1.alloc (.cells #[.int .i64 0, .nilFunc, .int .i64 0] 222)).setRow w1.heap.size #[.int .i64 2, .func (.func 97) #[cv c] #[], .int .i64 (aD true s.p)]) := below_setRow ((Below.refl _ _).alloc (Nat.le_refl _) _) (Nat.le_refl _) _
 have H2 := (h.keep hb1).keep hb2
 have Z1 := Bk.new w1 #[.int .i64 0, .nilFunc, .int .i64 0] 222
 have Z2 := Z1.setRow #[.int .i64 2, .func (.func 97) #[cv c] #[], .int .i64 (aD true s.p)]
 have lz := (h.keep hb1).lt
 have lgz := (h.keep hb1).M.lt
 have n1 : w1.heap.size ≠ g := aj
 have n2 : w1.heap.size ≠ gl := aj
 have n3 : w1.heap.size ≠ gx := aj
 obtain ⟨w2, hw2⟩ : ∃ u, u = (w1.alloc (.cells #[.int .i64 0, .nilFunc, .int .i64 0] 222)).setRow w1.heap.size #[.int .i64 2, .func (.func 97) #[cv c] #[], .int .i64 (aD true s.p)] := ⟨_, rfl⟩
 rw [← hw2] at H2 Z2
 clear hlv hb1 hb2 h lz lgz HLS
 go_wp2_with (refine wpList_store_row rfl 222 _ _ rfl w1.heap.size #[.int .i64 2, .func (.func 97) #[cv c] #[], .int .i64 (aD true s.p)] rfl rfl _ _ ji ah ah ah ?_; rw [← hw2]; clear hw2 Z1; obtain ⟨gz, hgz⟩ : ∃ u, u = w1.heap.size := ⟨_, rfl⟩; rw [← hgz] at Z2 n1 n2 n3; try rw [← hgz]; clear hgz; have x2 := H2.X.cells; have z2 := Z2.cells)
 exact qa2p
theorem skNoneb {B : Nat} {w0 w : World} {g gl cap gx : Nat} {c : Cfg} {a : Acc} {L : List Int} {s : Wk} (h : MX B w0 g gl cap gx c a L s w) (hm : L.length ≤ 1000) (hL : WR L) (hd : decide (20 ≤ s.p.ln) = false) (hl : s.p.ln ≠ 10 ∧ s.p.ln ≠ 11 ∧ s.p.ln ≠ 12 ∧ s.p.ln ≠ 13 ∧ s.p.ln ≠ 14 ∧ s.p.ln ≠ 15) : Calls Tryz.prog 229 #[.pointer (some ⟨g, 0, none⟩), .pointer (some ⟨gx, 0, none⟩)] w (LP B w0 g gl cap gx c ⟨a, L, s.p, 0, false⟩ s) := by
 have f0 : ∀ s : Wk, (wc s)[0]? = some (.int .i64 s.p.ln) := fun _ => rfl
 have t10 : (s.p.ln == 10) = false := iN
 have t20 : (s.p.ln == 20) = false := iN
 have t11 : (s.p.ln == 11) = false := iN
 have t21 : (s.p.ln == 21) = false := iN
 have t12 : (s.p.ln == 12) = false := iN
 have t22 : (s.p.ln == 22) = false := iN
 have t13 : (s.p.ln == 13) = false := iN
 have t23 : (s.p.ln == 23) = false := iN
 have t14 : (s.p.ln == 14) = false := iN
 have t24 : (s.p.ln == 24) = false := iN
 have t15 : (s.p.ln == 15) = false := iN
 have t25 : (s.p.ln == 25) = false := iN
 have HLS := Lib.hid (gG h hd)
 clear hl hd
 go_enter Tryz.func229, Tryz.ntmps229
 go_wp2_with fail
 refine HLS.out.mono ?_
 rintro en w1 ⟨rfl, hb1⟩
 have hlv : lsv c false s.p = #[.int .i64 1, .func (.func 214) #[cv c] #[], .int .i64 (aD false s.p)] := rfl
 rw [hlv]
 have hb2 : Below w1.heap.size w1 ((w1.alloc (.cells #[.int .i64 0, .nilFunc, .int .i64 0] 222)).setRow w1.heap.size #[.int .i64 1, .func (.func 214) #[cv c] #[], .int .i64 (aD false s.p)]) := below_setRow ((Below.refl _ _).alloc (Nat.le_refl _) _) (Nat.le_refl _) _
 have H2 := (h.keep hb1).keep hb2
 have Z1 := Bk.new w1 #[.int .i64 0, .nilFunc, .int .i64 0] 222
 obtain ⟨w2, hw2⟩ : ∃ u, u = (w1.alloc (.cells #[.int .i64 0, .nilFunc, .int .i64 0] 222)).setRow w1.heap.size #[.int .i64 1, .func (.func 214) #[cv c] #[], .int .i64 (aD false s.p)] := ⟨_, rfl⟩
 rw [← hw2] at H2
 clear hlv hb1 hb2 h HLS
 go_wp2_with (refine wpList_store_row rfl 222 _ _ rfl w1.heap.size #[.int .i64 1, .func (.func 214) #[cv c] #[], .int .i64 (aD false s.p)] rfl rfl _ _ ji ah ah ah ?_; rw [← hw2]; clear hw2 Z1; have x2 := H2.X.cells)
 go_ret2
 exact ⟨rfl, H2⟩
theorem skNonee {B : Nat} {w0 w : World} {g gl cap gx : Nat} {c : Cfg} {a : Acc} {L : List Int} {s : Wk} (h : MX B w0 g gl cap gx c a L s w) (hm : L.length ≤ 1000) (hL : WR L) (hd : decide (20 ≤ s.p.ln) = true) (hl : s.p.ln ≠ 20 ∧ s.p.ln ≠ 21 ∧ s.p.ln ≠ 22 ∧ s.p.ln ≠ 23 ∧ s.p.ln ≠ 24 ∧ s.p.ln ≠ 25) : Calls Tryz.prog 229 #[.pointer (some ⟨g, 0, none⟩), .pointer (some ⟨gx, 0, none⟩)] w (LP B w0 g gl cap gx c ⟨a, L, s.p, 0, false⟩ s) := by
 have f0 : ∀ s : Wk, (wc s)[0]? = some (.int .i64 s.p.ln) := fun _ => rfl
 have t10 : (s.p.ln == 10) = false := iN
 have t20 : (s.p.ln == 20) = false := iN
 have t11 : (s.p.ln == 11) = false := iN
 have t21 : (s.p.ln == 21) = false := iN
 have t12 : (s.p.ln == 12) = false := iN
 have t22 : (s.p.ln == 22) = false := iN
 have t13 : (s.p.ln == 13) = false := iN
 have t23 : (s.p.ln == 23) = false := iN
 have t14 : (s.p.ln == 14) = false := iN
 have t24 : (s.p.ln == 24) = false := iN
 have t15 : (s.p.ln == 15) = false := iN
 have t25 : (s.p.ln == 25) = false := iN
 have HLS := Lib.hid (gF h hd)
 clear hl hd
 go_enter Tryz.func229, Tryz.ntmps229
 go_wp2_with fail
 refine HLS.out.mono ?_
 rintro en w1 ⟨rfl, hb1⟩
 have hlv : lsv c true s.p = #[.int .i64 2, .func (.func 97) #[cv c] #[], .int .i64 (aD true s.p)] := rfl
 rw [hlv]
 have hb2 : Below w1.heap.size w1 ((w1.alloc (.cells #[.int .i64 0, .nilFunc, .int .i64 0] 222)).setRow w1.heap.size #[.int .i64 2, .func (.func 97) #[cv c] #[], .int .i64 (aD true s.p)]) := below_setRow ((Below.refl _ _).alloc (Nat.le_refl _) _) (Nat.le_refl _) _
 have H2 := (h.keep hb1).keep hb2
 have Z1 := Bk.new w1 #[.int .i64 0, .nilFunc, .int .i64 0] 222
 obtain ⟨w2, hw2⟩ : ∃ u, u = (w1.alloc (.cells #[.int .i64 0, .nilFunc, .int .i64 0] 222)).setRow w1.heap.size #[.int .i64 2, .func (.func 97) #[cv c] #[], .int .i64 (aD true s.p)] := ⟨_, rfl⟩
 rw [← hw2] at H2
 clear hlv hb1 hb2 h HLS
 go_wp2_with (refine wpList_store_row rfl 222 _ _ rfl w1.heap.size #[.int .i64 2, .func (.func 97) #[cv c] #[], .int .i64 (aD true s.p)] rfl rfl _ _ ji ah ah ah ?_; rw [← hw2]; clear hw2 Z1; have x2 := H2.X.cells)
 go_ret2
 exact ⟨rfl, H2⟩
theorem stackLine {B : Nat} {w0 w : World} {g gl cap gx : Nat} {c : Cfg} {a : Acc} {L : List Int} {s : Wk} (h : MX B w0 g gl cap gx c a L s w) (hm : L.length ≤ 1000) (hL : WR L) (hf : c.Wf) (hp : PR s.p) : Calls Tryz.prog 229 #[.pointer (some ⟨g, 0, none⟩), .pointer (some ⟨gx, 0, none⟩)] w (LP B w0 g gl cap gx c (aT c a L s.p) s) := by
 unfold aT
 by_cases he : 20 ≤ s.p.ln
 ·rw [decide_eq_true he]
  unfold skGo
  by_cases h10 : s.p.ln = 20
  ·rw [if_pos (show s.p.ln = d9 true 10 from h10)]
   by_cases hz : bM (ldV L 2) = 0
   ·have e1 : sk10 c L s.p true = ⟨acc L 1 2 0 0, L, { s.p with v := ldV L 2, h := bM (ldV L 2) }, 2, true⟩ := by simp [sk10, skH, hz]
    rw [e1]; exact sk10ez h hm hL h10 hz
   ·have e1 : sk10 c L s.p true = ⟨acc L 1 2 0 0, L, { s.p with v := ldV L 2, h := bM (ldV L 2), ln := 21 }, 0, true⟩ := by simp [sk10, skH, d9, hz]
    rw [e1]; exact sk10en h hm hL h10 hz
  rw [if_neg (show ¬ s.p.ln = d9 true 10 from h10)]
  by_cases h11 : s.p.ln = 21
  ·rw [if_pos (show s.p.ln = d9 true 11 from h11)]
   exact sk11e h hm hL hf h11
  rw [if_neg (show ¬ s.p.ln = d9 true 11 from h11)]
  by_cases h12 : s.p.ln = 22
  ·rw [if_pos (show s.p.ln = d9 true 12 from h12)]
   cases hb : csB L 2 s.p.v with
   | true =>
    have e1 : sk12 c L s.p true = ⟨acc L 3 2 s.p.v (bY (bM s.p.n - 1) s.p.v), csL L 2 s.p.v (bY (bM s.p.n - 1) s.p.v), s.p, 1, true⟩ := qa5j
    rw [e1]; exact sk12ey h hm hL hp.n hp.v h12 hb
   | false =>
    have e1 : sk12 c L s.p true = ⟨acc L 3 2 s.p.v (bY (bM s.p.n - 1) s.p.v), csL L 2 s.p.v (bY (bM s.p.n - 1) s.p.v), { s.p with ln := 20 }, 0, true⟩ := qa5j
    rw [e1]; exact sk12en h hm hL hp.n hp.v h12 hb
  rw [if_neg (show ¬ s.p.ln = d9 true 12 from h12)]
  by_cases h13 : s.p.ln = 23
  ·rw [if_pos (show s.p.ln = d9 true 13 from h13)]
   exact sk13e h hm hL h13
  rw [if_neg (show ¬ s.p.ln = d9 true 13 from h13)]
  by_cases h14 : s.p.ln = 24
  ·rw [if_pos (show s.p.ln = d9 true 14 from h14)]
   exact sk14e h hm hL hf hp.v h14
  rw [if_neg (show ¬ s.p.ln = d9 true 14 from h14)]
  by_cases h15 : s.p.ln = 25
  ·rw [if_pos (show s.p.ln = d9 true 15 from h15)]
   cases hb : csB L 2 s.p.v with
   | true =>
    have e1 : sk15 c L s.p true = ⟨acc L 3 2 s.p.v (bY (aD true s.p) s.p.v), csL L 2 s.p.v (bY (aD true s.p) s.p.v), s.p, 1, true⟩ := qa5k
    rw [e1]; exact sk15ey h hm hL hp.v h15 hb
   | false =>
    have e1 : sk15 c L s.p true = ⟨acc L 3 2 s.p.v (bY (aD true s.p) s.p.v), csL L 2 s.p.v (bY (aD true s.p) s.p.v), { s.p with ln := 23 }, 0, true⟩ := qa5k
    rw [e1]; exact sk15en h hm hL hp.v h15 hb
  rw [if_neg (show ¬ s.p.ln = d9 true 15 from h15)]
  exact skNonee h hm hL bq ⟨h10, h11, h12, h13, h14, h15⟩
 ·rw [decide_eq_false he]
  unfold skGo
  by_cases h10 : s.p.ln = 10
  ·rw [if_pos (show s.p.ln = d9 false 10 from h10)]
   by_cases hz : bM (ldV L 1) = 0
   ·have e1 : sk10 c L s.p false = ⟨acc L 1 1 0 0, L, { s.p with v := ldV L 1, h := bM (ldV L 1) }, 2, true⟩ := by simp [sk10, skH, hz]
    rw [e1]; exact sk10bz h hm hL h10 hz
   ·have e1 : sk10 c L s.p false = ⟨acc L 1 1 0 0, L, { s.p with v := ldV L 1, h := bM (ldV L 1), ln := 11 }, 0, true⟩ := by simp [sk10, skH, d9, hz]
    rw [e1]; exact sk10bn h hm hL h10 hz
  rw [if_neg (show ¬ s.p.ln = d9 false 10 from h10)]
  by_cases h11 : s.p.ln = 11
  ·rw [if_pos (show s.p.ln = d9 false 11 from h11)]
   exact sk11b h hm hL hf h11
  rw [if_neg (show ¬ s.p.ln = d9 false 11 from h11)]
  by_cases h12 : s.p.ln = 12
  ·rw [if_pos (show s.p.ln = d9 false 12 from h12)]
   cases hb : csB L 1 s.p.v with
   | true =>
    have e1 : sk12 c L s.p false = ⟨acc L 3 1 s.p.v (bY (bM s.p.n - 1) s.p.v), csL L 1 s.p.v (bY (bM s.p.n - 1) s.p.v), s.p, 1, true⟩ := qa5j
    rw [e1]; exact sk12by h hm hL hp.n hp.v h12 hb
   | false =>
    have e1 : sk12 c L s.p false = ⟨acc L 3 1 s.p.v (bY (bM s.p.n - 1) s.p.v), csL L 1 s.p.v (bY (bM s.p.n - 1) s.p.v), { s.p with ln := 10 }, 0, true⟩ := qa5j
    rw [e1]; exact sk12bn h hm hL hp.n hp.v h12 hb
  rw [if_neg (show ¬ s.p.ln = d9 false 12 from h12)]
  by_cases h13 : s.p.ln = 13
  ·rw [if_pos (show s.p.ln = d9 false 13 from h13)]
   exact sk13b h hm hL h13
  rw [if_neg (show ¬ s.p.ln = d9 false 13 from h13)]
  by_cases h14 : s.p.ln = 14
  ·rw [if_pos (show s.p.ln = d9 false 14 from h14)]
   exact sk14b h hm hL hf hp.v h14
  rw [if_neg (show ¬ s.p.ln = d9 false 14 from h14)]
  by_cases h15 : s.p.ln = 15
  ·rw [if_pos (show s.p.ln = d9 false 15 from h15)]
   cases hb : csB L 1 s.p.v with
   | true =>
    have e1 : sk15 c L s.p false = ⟨acc L 3 1 s.p.v (bY (aD false s.p) s.p.v), csL L 1 s.p.v (bY (aD false s.p) s.p.v), s.p, 1, true⟩ := qa5k
    rw [e1]; exact sk15by h hm hL hp.v h15 hb
   | false =>
    have e1 : sk15 c L s.p false = ⟨acc L 3 1 s.p.v (bY (aD false s.p) s.p.v), csL L 1 s.p.v (bY (aD false s.p) s.p.v), { s.p with ln := 13 }, 0, true⟩ := qa5k
    rw [e1]; exact sk15bn h hm hL hp.v h15 hb
  rw [if_neg (show ¬ s.p.ln = d9 false 15 from h15)]
  exact skNoneb h hm hL bq ⟨h10, h11, h12, h13, h14, h15⟩
end Go.Proofs.YtaiodbcnbcdokaaGreat.Me
namespace Go.Proofs.YtaiodbcnbcdokaaGreat.Me
open Go Go.RowKit Gro Own Wd Ap Go.Proofs.YtaiodbcnbcdokaaGreat.Pl Wo
theorem fQ {B : Nat} {w : World} {g gl cap : Nat} {c : Cfg} {a : Acc} {L : List Int} (M : aC B w g c a gl cap L) (hf : c.Wf) (hm : L.length ≤ 1000) (hL : WR L) (s : Wk) (x : St) (hx : Few 1000 x) (h : aP w s x) (hp : PR x.p) :
  Calls Tryz.prog 223 #[.pointer (some ⟨g, 0, none⟩), wv s] w (iI B g gl cap c (aT c a L x.p).fin x w) :=
 stackStep M s x hx h _ fun gx s1 w1 H e => by
  have := stackLine H hm hL hf (by rw [e]; exact hp)
  rwa [e] at this
structure Keeps (L : List Int) (r : Res) : Prop where
 len : r.L.length = L.length
 wr : WR r.L
 pr : PR r.p
theorem Keeps.fin {L : List Int} {r : Res} (h : Keeps L r) : Keeps L r.fin := by
 unfold Res.fin
 split
 ·exact h
 ·exact ⟨h.len, h.wr, ⟨h.pr.ep, h.pr.h, h.pr.n, h.pr.v, h.pr.u, h.pr.g, h.pr.t⟩⟩
theorem low32_rng (v : Int) : 0 ≤ bM v ∧ bM v < 18446744073709551616 := by unfold bM; omega
theorem skNew_rng (t v : Int) : 0 ≤ bY t v ∧ bY t v < 18446744073709551616 := Pk.hd_rng _ _
theorem skSwap_keeps {L : List Int} {p : Pl} (hL : WR L) (hp : PR p) (e : Bool) (t k : Int) : Keeps L (skSwap L p e t k) :=
 ⟨csL_len _ _ _, csL_wr hL _ _ (skNew_rng _ _).1 (skNew_rng _ _).2, ⟨hp.ep, hp.h, hp.n, hp.v, hp.u, hp.g, hp.t⟩⟩
theorem stackLn_keeps {c : Cfg} {a : Acc} {L : List Int} {p : Pl} (hL : WR L) (hp : PR p) : Keeps L (aT c a L p) := by
 unfold aT skGo
 split
 ·exact ⟨rfl, hL, ⟨hp.ep, low32_rng _, hp.n, dP hL _, hp.u, hp.g, hp.t⟩⟩
 split
 ·exact ⟨rfl, hL, ⟨hp.ep, hp.h, dP hL _, hp.v, hp.u, hp.g, hp.t⟩⟩
 split
 ·exact skSwap_keeps hL hp _ _ _
 split
 ·exact ⟨rfl, hL, ⟨hp.ep, hp.h, hp.n, dP hL _, hp.u, hp.g, hp.t⟩⟩
 split
 ·exact ⟨stL_len _ _, stL_wr hL _ (low32_rng _).1 (low32_rng _).2, ⟨hp.ep, hp.h, hp.n, hp.v, hp.u, hp.g, hp.t⟩⟩
 split
 ·exact skSwap_keeps hL hp _ _ _
 ·exact ⟨rfl, hL, hp⟩
end Go.Proofs.YtaiodbcnbcdokaaGreat.Me
