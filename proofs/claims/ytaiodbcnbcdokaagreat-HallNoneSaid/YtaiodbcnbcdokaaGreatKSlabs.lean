/- Part Slabs. -/
import Derived.Test.YtaiodbcnbcdokaaGreatKStacks
set_option linter.unusedVariables false
set_option linter.unusedSimpArgs false
set_option linter.unusedSectionVars false
set_option maxRecDepth 100000
set_option maxHeartbeats 16000000
namespace Go.Proofs.YtaiodbcnbcdokaaGreat.Me
open Go Go.RowKit Gro Own Wd Ap Go.Proofs.YtaiodbcnbcdokaaGreat.Pl Wo
def RetB (x : Value) (w : World) (e : Ending) (w' : World) : Prop := e = .returned x ∧ Below w.heap.size w w'
def rdy0 (st tag e : Int) : Bool := decide (st = 0) || (decide (st = 3) && decide (2 ≤ e) && decide (tag ≤ e - 2))
def rdyB (v e : Int) : Bool := rdy0 (v % 16) (v / 65536) e
theorem unslabP (v : Int) (h0 : 0 ≤ v) (h1 : v < 18446744073709551616) (w : World) : Calls Tryz.prog 218 #[.int .u64 v] w (RetB (.tuple #[.int .i64 (v % 16), .int .i64 (v / 16 % 4096), .int .u64 (v / 65536)]) w) := by
 refine (Pk.unslab v h0 h1 w).mono ?_
 rintro e w' ⟨rfl, rfl⟩
 exact ⟨rfl, Below.refl _ _⟩
theorem ready_a (v e st pk tag : Int) (e1 : e < 18446744073709551616) (HU : RowKit.Hid (∀ w, Calls Tryz.prog 218 #[.int .u64 v] w (RetB (.tuple #[.int .i64 st, .int .i64 pk, .int .u64 tag]) w))) (hs : st = 0) (w : World) : Calls Tryz.prog 220 #[.int .u64 v, .int .u64 e] w (RetB (.bool true) w) := by
 have t0 : (st == 0) = true := qa5v
 clear hs
 exact qa29
theorem ready_b (v e st pk tag : Int) (e1 : e < 18446744073709551616) (HU : RowKit.Hid (∀ w, Calls Tryz.prog 218 #[.int .u64 v] w (RetB (.tuple #[.int .i64 st, .int .i64 pk, .int .u64 tag]) w))) (hs : st ≠ 0) (h3 : st ≠ 3) (w : World) : Calls Tryz.prog 220 #[.int .u64 v, .int .u64 e] w (RetB (.bool false) w) := by
 have t0 : (st == 0) = false := qa5v
 have t3 : (st == 3) = false := qa5w
 clear hs h3
 exact qa29
theorem ready_c (v e st pk tag : Int) (e1 : e < 18446744073709551616) (HU : RowKit.Hid (∀ w, Calls Tryz.prog 218 #[.int .u64 v] w (RetB (.tuple #[.int .i64 st, .int .i64 pk, .int .u64 tag]) w))) (hs : st = 3) (he : e < 2) (w : World) : Calls Tryz.prog 220 #[.int .u64 v, .int .u64 e] w (RetB (.bool false) w) := by
 have t0 : (st == 0) = false := qa5v
 have t3 : (st == 3) = true := qa5v
 have t2 : decide (2 ≤ e) = false := bq
 have t1 : decide (1 < e) = false := bq
 clear hs he
 exact qa29
theorem ready_d (v e st pk tag : Int) (e1 : e < 18446744073709551616) (HU : RowKit.Hid (∀ w, Calls Tryz.prog 218 #[.int .u64 v] w (RetB (.tuple #[.int .i64 st, .int .i64 pk, .int .u64 tag]) w))) (hs : st = 3) (he : 2 ≤ e) (ht : tag ≤ e - 2) (w : World) : Calls Tryz.prog 220 #[.int .u64 v, .int .u64 e] w (RetB (.bool true) w) := by
 have t0 : (st == 0) = false := qa5v
 have t3 : (st == 3) = true := qa5v
 have t2 : decide (2 ≤ e) = true := bq
 have t1 : decide (1 < e) = true := bq
 have tw : IntKind.u64.wrap (e - 2) = e - 2 := by unfold IntKind.wrap; rw [show IntKind.u64.bits = 64 from rfl]; simp [IntKind.signed]; omega
 have t4 : decide (tag ≤ e - 2) = true := by simp [ht]
 exact qa2a
theorem ready_e (v e st pk tag : Int) (e1 : e < 18446744073709551616) (HU : RowKit.Hid (∀ w, Calls Tryz.prog 218 #[.int .u64 v] w (RetB (.tuple #[.int .i64 st, .int .i64 pk, .int .u64 tag]) w))) (hs : st = 3) (he : 2 ≤ e) (ht : ¬ tag ≤ e - 2) (w : World) : Calls Tryz.prog 220 #[.int .u64 v, .int .u64 e] w (RetB (.bool false) w) := by
 have t0 : (st == 0) = false := qa5v
 have t3 : (st == 3) = true := qa5v
 have t2 : decide (2 ≤ e) = true := bq
 have t1 : decide (1 < e) = true := bq
 have tw : IntKind.u64.wrap (e - 2) = e - 2 := by unfold IntKind.wrap; rw [show IntKind.u64.bits = 64 from rfl]; simp [IntKind.signed]; omega
 have t4 : decide (tag ≤ e - 2) = false := bq
 exact qa2a
theorem ready (v e : Int) (h0 : 0 ≤ v) (h1 : v < 18446744073709551616) (e1 : e < 18446744073709551616) (w : World) : Calls Tryz.prog 220 #[.int .u64 v, .int .u64 e] w (RetB (.bool (rdyB v e)) w) := by
 have HU := Lib.hid (unslabP v h0 h1)
 unfold rdyB rdy0
 by_cases hs : v % 16 = 0
 ·have := ready_a v e _ _ _ e1 HU hs w
  simpa [hs] using this
 ·by_cases h3 : v % 16 = 3
  ·by_cases he : 2 ≤ e
   ·by_cases ht : v / 65536 ≤ e - 2
    ·have := ready_d v e _ _ _ e1 HU h3 he ht w
     simpa [h3, he, ht] using this
    ·have := ready_e v e _ _ _ e1 HU h3 he ht w
     simpa [h3, he, ht] using this
   ·have := ready_c v e _ _ _ e1 HU h3 aj w
    simpa [h3, he] using this
  ·have := ready_b v e _ _ _ e1 HU hs h3 w
   simpa [hs, h3] using this
theorem stateOf (v : Int) (h0 : 0 ≤ v) (h1 : v < 18446744073709551616) (w : World) : Calls Tryz.prog 196 #[.int .u64 v] w (RetB (.int .i64 (v % 16)) w) := by
 have HU := Lib.hid (unslabP v h0 h1)
 go_enter Tryz.func196, Tryz.ntmps196
 exact qa42
end Go.Proofs.YtaiodbcnbcdokaaGreat.Me
namespace Go.Proofs.YtaiodbcnbcdokaaGreat.Me
open Go Go.RowKit Gro Own Wd Ap Go.Proofs.YtaiodbcnbcdokaaGreat.Pl Wo
def aZ (c : Cfg) (k : Int) : Int := aS c (aHom c (wrap64 (k - 1)))
def slNow (L : List Int) (k : Int) : Int := IntKind.u64.wrap (ldV L k + 16)
def sl30 (c : Cfg) (L : List Int) (p : Pl) : Res :=
 if slNow L (aZ c p.k) / 16 % 4096 = c.bl then ⟨acc L 4 (aZ c p.k) 16 0, adL L (aZ c p.k) 16, { p with ln := 31 }, 0, true⟩
 else ⟨acc L 4 (aZ c p.k) 16 0, adL L (aZ c p.k) 16, { p with k := 0 }, 1, true⟩
def sl31 (L : List Int) (p : Pl) : Res := ⟨acc L 1 0 0 0, L, { p with v := ldV L 0, ln := 32 }, 0, true⟩
def sl32 (c : Cfg) (L : List Int) (p : Pl) : Res := ⟨acc L 2 (aZ c p.k) (Pk.sl 3 0 p.v) 0, stL L (aZ c p.k) (Pk.sl 3 0 p.v), { p with k := 0 }, 1, true⟩
def sl33 (c : Cfg) (L : List Int) (p : Pl) : Res :=
 if rdyB (ldV L (aS c p.j)) p.ep = true then ⟨acc L 1 (aS c p.j) 0 0, L, { p with v := ldV L (aS c p.j), ln := 34 }, 0, true⟩
 else ⟨acc L 1 (aS c p.j) 0 0, L, { p with v := ldV L (aS c p.j), j := wrap64 (p.j + 1) }, if c.sl ≤ wrap64 (p.j + 1) then 2 else 0, true⟩
def slSwap (c : Cfg) (L : List Int) (p : Pl) (j st back : Int) : Res :=
 if csB L (aS c j) p.v = true then ⟨acc L 3 (aS c j) p.v st, csL L (aS c j) p.v st, p, 1, true⟩
 else ⟨acc L 3 (aS c j) p.v st, csL L (aS c j) p.v st, { p with ln := back }, 0, true⟩
def slTake (c : Cfg) (L : List Int) (p : Pl) (k : Int) : Res := ⟨acc L 1 (aZ c k) 0 0, L, p, if ldV L (aZ c k) % 16 = 2 then 2 else 1, true⟩
def sl36 (c : Cfg) (L : List Int) (p : Pl) : Res :=
 if ldV L (aS c p.o3) % 16 = 1 then ⟨acc L 1 (aS c p.o3) 0 0, L, { p with v := ldV L (aS c p.o3), ln := 37 }, 0, true⟩
 else ⟨acc L 1 (aS c p.o3) 0 0, L, { p with v := ldV L (aS c p.o3) }, 2, true⟩
def fq (c : Cfg) (a : Acc) (L : List Int) (p : Pl) : Res :=
 if p.ln = 30 then sl30 c L p else if p.ln = 31 then sl31 L p else if p.ln = 32 then sl32 c L p else if p.ln = 33 then sl33 c L p
 else if p.ln = 34 then slSwap c L p p.j 1 33 else if p.ln = 35 then slTake c L p p.b else if p.ln = 36 then sl36 c L p
 else if p.ln = 37 then slSwap c L p p.o3 2 36 else if p.ln = 39 then slTake c L p p.k else ⟨a, L, p, 0, false⟩
end Go.Proofs.YtaiodbcnbcdokaaGreat.Me
namespace Go.Proofs.YtaiodbcnbcdokaaGreat.Me
open Go Go.RowKit Gro Own Wd Ap Go.Proofs.YtaiodbcnbcdokaaGreat.Pl Wo
theorem slabStepZ0 {B : Nat} {w : World} {g gl cap : Nat} {c : Cfg} {a a' : Acc} {L L' : List Int} (M : aC B w g c a gl cap L) (s : Wk) (x : St) (hx : Few 1000 x) (h : aP w s x) {p1 : Pl} {ok : Bool}
  (HL : RowKit.Hid (∀ gx s1 w1, MX B w1 g gl cap gx c a L s1 w1 → s1.p = x.p → Calls Tryz.prog 164 #[.pointer (some ⟨g, 0, none⟩), .pointer (some ⟨gx, 0, none⟩)] w1 (LP B w1 g gl cap gx c ⟨a', L', p1, (0 : Int), ok⟩ s1))) :
  Calls Tryz.prog 140 #[.pointer (some ⟨g, 0, none⟩), wv s] w (iI B g gl cap c ⟨a', L', p1, (0 : Int), ok⟩ x w) := by
 have T0 := Two.start w s
 have mlt := M.lt
 go_enter Tryz.func140, Tryz.ntmps140
 go_wp2_with (first | (refine au rfl rfl ?_) | (refine wpList_load_row rfl 46 _ rfl w.heap.size rfl _ (wc s) (0, 0) _ bT Tryz.underlying46 rfl ah ?_))
 refine (aW s x hx _ (h.keep T0.below)).mono ?_
 rintro e w1 ⟨s1, rfl, A1, hb1⟩
 have T1 := T0.keep hb1
 have b1 := T1.lt
 have T2 := T1.bO s1
 have hsz : ((w.alloc (.cells (wc s) 46)).alloc (.cells (wc wz) 46)).heap.size = w.heap.size + 2 := aF
 rw [hsz] at A1 hb1
 have A2 := A1.setRow (g := w.heap.size) aj (wc s1)
 have M2 := M.keep T2.below
 have MM : MX B (w1.setRow w.heap.size (wc s1)) g gl cap w.heap.size c a L s1 (w1.setRow w.heap.size (wc s1)) := ⟨M2, T2.X, Tri.refl _ _ _ _, by omega, by omega⟩
 obtain ⟨w2, hw2⟩ : ∃ u, u = w1.setRow w.heap.size (wc s1) := ⟨_, rfl⟩
 rw [← hw2] at MM A2 T2
 have hp := A1.p
 clear A1 M2 hb1 T0
 go_wp2_with (first | (refine wpList_store_row rfl 46 _ _ rfl w.heap.size (wc s1) rfl rfl _ _ dG ah ah ah ?_; rw [← hw2]; clear hw2 T1))
 refine (HL.out _ s1 _ MM hp).mono ?_
 rintro e w3 ⟨rfl, H3⟩
 have Z3 := H3.T.bk T2.Z aj aj aj
 have A3 := jh A2 H3.T aj aj aj
 have HE := H3
 have ZE := Z3
 clear Z3 MM H3 A2
 go_wp2_with (first | (refine wpList_load_row rfl 46 _ rfl w.heap.size rfl _ (wc ({ s1 with p := p1 } : Wk)) (0, 0) _ qa58 Tryz.underlying46 rfl ah ?_) | (refine wpList_store_row rfl 46 _ _ rfl (w.heap.size + 1) (wc ({ s1 with p := p1 } : Wk)) rfl rfl _ _ qa59 ah ah ah ?_))
 have ZF := ZE.setRow (wc ({ s1 with p := p1 } : Wk))
 refine bodyPost_ret (v := .tuple #[wv ({ s1 with p := p1 } : Wk), .int .i64 (0 : Int), .bool ok]) ?_ rfl ⟨_, rfl, iH A3 aj aj _, HE.M.apart (g' := w.heap.size + 1) (gl' := w.heap.size + 1) ((Touch.refl _ _ _).setRow _) aj aj aj aj, dQ T2.below HE.T aj _⟩
 exact Rw.results_cell_slot2 (p := 4) (q := 5) (r := 6) (ty := 46) Tryz.results140 _ _ (w.heap.size + 1) 46 _ (0, 0) _ rfl ZF Tryz.underlying46 rfl ah
theorem slabStepZ1 {B : Nat} {w : World} {g gl cap : Nat} {c : Cfg} {a a' : Acc} {L L' : List Int} (M : aC B w g c a gl cap L) (s : Wk) (x : St) (hx : Few 1000 x) (h : aP w s x) {p1 : Pl} {way : Int} (hway : way ≠ 0) {ok : Bool}
  (HL : RowKit.Hid (∀ gx s1 w1, MX B w1 g gl cap gx c a L s1 w1 → s1.p = x.p → Calls Tryz.prog 164 #[.pointer (some ⟨g, 0, none⟩), .pointer (some ⟨gx, 0, none⟩)] w1 (LP B w1 g gl cap gx c ⟨a', L', p1, way, ok⟩ s1))) :
  Calls Tryz.prog 140 #[.pointer (some ⟨g, 0, none⟩), wv s] w (iI B g gl cap c ⟨a', L', { p1 with ln := 0 }, way, ok⟩ x w) := by
 have T0 := Two.start w s
 have mlt := M.lt
 have hwb : (way != 0) = true := by simp [hway]
 clear hway
 go_enter Tryz.func140, Tryz.ntmps140
 go_wp2_with (first | (refine au rfl rfl ?_) | (refine wpList_load_row rfl 46 _ rfl w.heap.size rfl _ (wc s) (0, 0) _ bT Tryz.underlying46 rfl ah ?_))
 refine (aW s x hx _ (h.keep T0.below)).mono ?_
 rintro e w1 ⟨s1, rfl, A1, hb1⟩
 have T1 := T0.keep hb1
 have b1 := T1.lt
 have T2 := T1.bO s1
 have hsz : ((w.alloc (.cells (wc s) 46)).alloc (.cells (wc wz) 46)).heap.size = w.heap.size + 2 := aF
 rw [hsz] at A1 hb1
 have A2 := A1.setRow (g := w.heap.size) aj (wc s1)
 have M2 := M.keep T2.below
 have MM : MX B (w1.setRow w.heap.size (wc s1)) g gl cap w.heap.size c a L s1 (w1.setRow w.heap.size (wc s1)) := ⟨M2, T2.X, Tri.refl _ _ _ _, by omega, by omega⟩
 obtain ⟨w2, hw2⟩ : ∃ u, u = w1.setRow w.heap.size (wc s1) := ⟨_, rfl⟩
 rw [← hw2] at MM A2 T2
 have hp := A1.p
 clear A1 M2 hb1 T0
 go_wp2_with (first | (refine wpList_store_row rfl 46 _ _ rfl w.heap.size (wc s1) rfl rfl _ _ dG ah ah ah ?_; rw [← hw2]; clear hw2 T1))
 refine (HL.out _ s1 _ MM hp).mono ?_
 rintro e w3 ⟨rfl, H3⟩
 have Z3 := H3.T.bk T2.Z aj aj aj
 have A3 := jh A2 H3.T aj aj aj
 have HE := H3.set (s' := { s1 with p := { p1 with ln := 0 } }) 0 (.int .i64 0) rfl
 have ZE := Z3.aA (a := ⟨w.heap.size, 0, none⟩) aF (.int .i64 0)
 have x3 := H3.X.cells
 have z3 := H3.X.frozen
 have f0 : ∀ s : Wk, (wc s)[0]? = some (.int .i64 s.p.ln) := fun _ => rfl
 have e0 : (w3.cell? ⟨w.heap.size, 0, none⟩).isSome = true := qa5a
 have A3 := A3.setCell (g := w.heap.size) aj 0 (.int .i64 0)
 clear Z3 MM H3 A2
 go_wp2_with (first | (refine wpList_load_row rfl 46 _ rfl w.heap.size rfl _ (wc ({ s1 with p := { p1 with ln := 0 } } : Wk)) (0, 0) _ qa58 Tryz.underlying46 rfl ah ?_) | (refine wpList_store_row rfl 46 _ _ rfl (w.heap.size + 1) (wc ({ s1 with p := { p1 with ln := 0 } } : Wk)) rfl rfl _ _ qa59 ah ah ah ?_))
 have ZF := ZE.setRow (wc ({ s1 with p := { p1 with ln := 0 } } : Wk))
 refine bodyPost_ret (v := .tuple #[wv ({ s1 with p := { p1 with ln := 0 } } : Wk), .int .i64 way, .bool ok]) ?_ rfl ⟨_, rfl, iH A3 aj aj _, HE.M.apart (g' := w.heap.size + 1) (gl' := w.heap.size + 1) ((Touch.refl _ _ _).setRow _) aj aj aj aj, dQ T2.below HE.T aj _⟩
 exact Rw.results_cell_slot2 (p := 4) (q := 5) (r := 6) (ty := 46) Tryz.results140 _ _ (w.heap.size + 1) 46 _ (0, 0) _ rfl ZF Tryz.underlying46 rfl ah
theorem slabStep {B : Nat} {w : World} {g gl cap : Nat} {c : Cfg} {a : Acc} {L : List Int} (M : aC B w g c a gl cap L) (s : Wk) (x : St) (hx : Few 1000 x) (h : aP w s x) (r : Res)
  (HL : ∀ gx s1 w1, MX B w1 g gl cap gx c a L s1 w1 → s1.p = x.p → Calls Tryz.prog 164 #[.pointer (some ⟨g, 0, none⟩), .pointer (some ⟨gx, 0, none⟩)] w1 (LP B w1 g gl cap gx c r s1)) :
  Calls Tryz.prog 140 #[.pointer (some ⟨g, 0, none⟩), wv s] w (iI B g gl cap c r.fin x w) := by
 obtain ⟨a', L', p1, way, ok⟩ := r
 by_cases hw : way = 0
 ·subst hw
  rw [Res.fin0 rfl]
  exact slabStepZ0 M s x hx h (Lib.hid HL)
 ·rw [Res.fin1 hw]
  exact slabStepZ1 M s x hx h hw (Lib.hid HL)
end Go.Proofs.YtaiodbcnbcdokaaGreat.Me
namespace Go.Proofs.YtaiodbcnbcdokaaGreat.Me
open Go Go.RowKit Gro Own Wd Ap Go.Proofs.YtaiodbcnbcdokaaGreat.Pl Wo
theorem slHomeC {B : Nat} {w : World} {g gl cap : Nat} {c : Cfg} {a : Acc} {L : List Int} (M : aC B w g c a gl cap L) (hf : c.Wf) (k : Int) : Calls Tryz.prog 190 #[.pointer (some ⟨g, 0, none⟩), .int .i64 k] w fun e w' => e = .returned (.int .i64 (aZ c k)) ∧ Below w.heap.size w w' := by
 have m0 := M.B.cells
 have lg := M.lt.1
 have hh : aS c (aHom c (wrap64 (k - 1))) = aZ c k := rfl
 have HH := Lib.hid hh
 clear hh
 go_enter Tryz.func190, Tryz.ntmps190
 go_wp2
 refine aN ah ah ?_
 have hg := @cK
 repeat (go_big_quiet_step (first | exact grown_of (Pl.home c hf _ _) | exact grown_of (Pl.slab c hf _ _)))
 refine wpQuiet_nil ?_
 rintro w1 ⟨⟨_, hb1⟩, rfl⟩
 clear hg
 rw [HH.out]
 go_wp2
 go_ret
 exact ⟨rfl, hb1⟩
theorem slPark1 {B : Nat} {w0 w : World} {g gl cap gx : Nat} {c : Cfg} {a : Acc} {L : List Int} {s : Wk} (h : MX B w0 g gl cap gx c a L s w) (hm : L.length ≤ 1000) (hL : WR L) (hf : c.Wf) (he : slNow L (aZ c s.p.k) / 16 % 4096 = c.bl) : Calls Tryz.prog 189 #[.pointer (some ⟨g, 0, none⟩), .pointer (some ⟨gx, 0, none⟩)] w fun e w' => e = .returned (.int .i64 0) ∧ MX B w0 g gl cap gx c (acc L 4 (aZ c s.p.k) 16 0) (adL L (aZ c s.p.k) 16) { s with p := { s.p with ln := 31 } } w' := by
 have f0 : ∀ s : Wk, (wc s)[0]? = some (.int .i64 s.p.ln) := fun _ => rfl
 have f19 : ∀ s : Wk, (wc s)[19]? = some (.int .i64 s.p.k) := fun _ => rfl
 have HE := Lib.hid he
 have hv := wrap_rng (ldV L (aZ c s.p.k) + 16)
 have HN := Lib.hid (show IntKind.u64.wrap (ldV L (aZ c s.p.k) + 16) = slNow L (aZ c s.p.k) from rfl)
 rw [HN.out] at hv
 have HUN := Lib.hid (fun w => unslabP (slNow L (aZ c s.p.k)) hv.1 hv.2 w)
 have HHO := Lib.hid (slHomeC h.M hf s.p.k)
 clear he hv
 have x0 := h.X.cells
 go_enter Tryz.func189, Tryz.ntmps189
 go_wp2_with fail
 refine HHO.out.mono ?_
 rintro en w1 ⟨rfl, hb1⟩
 have H1 := h.keep hb1
 clear HHO x0 hb1
 go_wp2_with fail
 refine (add_any H1.M hm _ 16).mono ?_
 rintro en w2 ⟨rfl, M2, T2⟩
 have H2 := H1.mem M2 T2
 clear H1 M2 T2
 go_wp2_with fail
 rw [HN.out]
 refine (HUN.out _).mono ?_
 rintro en w3 ⟨rfl, hb3⟩
 have H3 := H2.keep hb3
 have x3 := H3.X.cells
 have m3 := H3.M.B.cells
 obtain ⟨q, hq⟩ : ∃ q, q = slNow L (aZ c s.p.k) / 16 % 4096 := ⟨_, rfl⟩
 rw [← hq] at HE
 simp only [← hq]
 clear hq H2 hb3
 have te : (q == c.bl) = true := qa5x
 have H4 := H3.set (s' := { s with p := { s.p with ln := 31 } }) 0 (.int .i64 31) rfl
 exact qaj
theorem sll30y {B : Nat} {w0 w : World} {g gl cap gx : Nat} {c : Cfg} {a : Acc} {L : List Int} {s : Wk} (h : MX B w0 g gl cap gx c a L s w) (hm : L.length ≤ 1000) (hL : WR L) (hf : c.Wf) (hl : s.p.ln = 30) (he : slNow L (aZ c s.p.k) / 16 % 4096 = c.bl) : Calls Tryz.prog 164 #[.pointer (some ⟨g, 0, none⟩), .pointer (some ⟨gx, 0, none⟩)] w (LP B w0 g gl cap gx c ⟨acc L 4 (aZ c s.p.k) 16 0, adL L (aZ c s.p.k) 16, { s.p with ln := 31 }, 0, true⟩ s) := by
 have HC := Lib.hid (slPark1 h hm hL hf he)
 exact qa2b
theorem slPark0 {B : Nat} {w0 w : World} {g gl cap gx : Nat} {c : Cfg} {a : Acc} {L : List Int} {s : Wk} (h : MX B w0 g gl cap gx c a L s w) (hm : L.length ≤ 1000) (hL : WR L) (hf : c.Wf) (he : slNow L (aZ c s.p.k) / 16 % 4096 ≠ c.bl) : Calls Tryz.prog 189 #[.pointer (some ⟨g, 0, none⟩), .pointer (some ⟨gx, 0, none⟩)] w fun e w' => e = .returned (.int .i64 1) ∧ MX B w0 g gl cap gx c (acc L 4 (aZ c s.p.k) 16 0) (adL L (aZ c s.p.k) 16) { s with p := { s.p with k := 0 } } w' := by
 have f0 : ∀ s : Wk, (wc s)[0]? = some (.int .i64 s.p.ln) := fun _ => rfl
 have f19 : ∀ s : Wk, (wc s)[19]? = some (.int .i64 s.p.k) := fun _ => rfl
 have HE := Lib.hid he
 have hv := wrap_rng (ldV L (aZ c s.p.k) + 16)
 have HN := Lib.hid (show IntKind.u64.wrap (ldV L (aZ c s.p.k) + 16) = slNow L (aZ c s.p.k) from rfl)
 rw [HN.out] at hv
 have HUN := Lib.hid (fun w => unslabP (slNow L (aZ c s.p.k)) hv.1 hv.2 w)
 have HHO := Lib.hid (slHomeC h.M hf s.p.k)
 clear he hv
 have x0 := h.X.cells
 go_enter Tryz.func189, Tryz.ntmps189
 go_wp2_with fail
 refine HHO.out.mono ?_
 rintro en w1 ⟨rfl, hb1⟩
 have H1 := h.keep hb1
 clear HHO x0 hb1
 go_wp2_with fail
 refine (add_any H1.M hm _ 16).mono ?_
 rintro en w2 ⟨rfl, M2, T2⟩
 have H2 := H1.mem M2 T2
 clear H1 M2 T2
 go_wp2_with fail
 rw [HN.out]
 refine (HUN.out _).mono ?_
 rintro en w3 ⟨rfl, hb3⟩
 have H3 := H2.keep hb3
 have x3 := H3.X.cells
 have m3 := H3.M.B.cells
 obtain ⟨q, hq⟩ : ∃ q, q = slNow L (aZ c s.p.k) / 16 % 4096 := ⟨_, rfl⟩
 rw [← hq] at HE
 simp only [← hq]
 clear hq H2 hb3
 have te : (q == c.bl) = false := qa5x
 have H4 := H3.set (s' := { s with p := { s.p with k := 0 } }) 19 (.int .i64 0) rfl
 have xw3 := H3.X.cells
 have zw3 := H3.X.frozen
 have ew3_19 : (w3.cell? ⟨gx, 19, none⟩).isSome = true := by rw [xw3, f19]; rfl
 go_wp2
 go_ret
 exact ⟨rfl, H4⟩
theorem sll30n {B : Nat} {w0 w : World} {g gl cap gx : Nat} {c : Cfg} {a : Acc} {L : List Int} {s : Wk} (h : MX B w0 g gl cap gx c a L s w) (hm : L.length ≤ 1000) (hL : WR L) (hf : c.Wf) (hl : s.p.ln = 30) (he : slNow L (aZ c s.p.k) / 16 % 4096 ≠ c.bl) : Calls Tryz.prog 164 #[.pointer (some ⟨g, 0, none⟩), .pointer (some ⟨gx, 0, none⟩)] w (LP B w0 g gl cap gx c ⟨acc L 4 (aZ c s.p.k) 16 0, adL L (aZ c s.p.k) 16, { s.p with k := 0 }, 1, true⟩ s) := by
 have HC := Lib.hid (slPark0 h hm hL hf he)
 exact qa2b
theorem sll31 {B : Nat} {w0 w : World} {g gl cap gx : Nat} {c : Cfg} {a : Acc} {L : List Int} {s : Wk} (h : MX B w0 g gl cap gx c a L s w) (hm : L.length ≤ 1000) (hL : WR L) (hf : c.Wf) (hl : s.p.ln = 31) : Calls Tryz.prog 164 #[.pointer (some ⟨g, 0, none⟩), .pointer (some ⟨gx, 0, none⟩)] w (LP B w0 g gl cap gx c ⟨acc L 1 0 0 0, L, { s.p with v := ldV L 0, ln := 32 }, 0, true⟩ s) := by
 have f0 : ∀ s : Wk, (wc s)[0]? = some (.int .i64 s.p.ln) := fun _ => rfl
 have f25 : ∀ s : Wk, (wc s)[25]? = some (.int .u64 s.p.v) := fun _ => rfl
 have t30 : (s.p.ln == 30) = false := jB hl
 have t31 : (s.p.ln == 31) = true := jB hl
 have x0 := h.X.cells
 clear hl
 go_enter Tryz.func164, Tryz.ntmps164
 go_wp2_with fail
 refine (bF h.M hm 0).mono ?_
 rintro en w1 ⟨rfl, M1, T1⟩
 have H1 := h.mem M1 T1
 obtain ⟨v0, hv0⟩ : ∃ v, v = ldV L 0 := ⟨_, rfl⟩
 simp only [← hv0]
 have HV := Lib.hid hv0
 clear hv0 x0 M1 T1
 have H2 := H1.set (s' := { s with p := { s.p with v := v0 } }) 25 (.int .u64 v0) rfl
 have xw1 := H1.X.cells
 have zw1 := H1.X.frozen
 have ew1_25 : (w1.cell? ⟨gx, 25, none⟩).isSome = true := by rw [xw1, f25]; rfl
 have H3 := H2.set (s' := { s with p := { s.p with v := v0, ln := 32 } }) 0 (.int .i64 32) rfl
 have y2 : ((w1.setCell ⟨gx, 25, none⟩ (.int .u64 v0)).cell? ⟨gx, 0, none⟩).isSome = true := qa5y
 go_wp2
 go_ret2
 exact qai
theorem sll32 {B : Nat} {w0 w : World} {g gl cap gx : Nat} {c : Cfg} {a : Acc} {L : List Int} {s : Wk} (h : MX B w0 g gl cap gx c a L s w) (hm : L.length ≤ 1000) (hL : WR L) (hf : c.Wf) (hl : s.p.ln = 32) : Calls Tryz.prog 164 #[.pointer (some ⟨g, 0, none⟩), .pointer (some ⟨gx, 0, none⟩)] w (LP B w0 g gl cap gx c ⟨acc L 2 (aZ c s.p.k) (Pk.sl 3 0 s.p.v) 0, stL L (aZ c s.p.k) (Pk.sl 3 0 s.p.v), { s.p with k := 0 }, 1, true⟩ s) := by
 have f0 : ∀ s : Wk, (wc s)[0]? = some (.int .i64 s.p.ln) := fun _ => rfl
 have f19 : ∀ s : Wk, (wc s)[19]? = some (.int .i64 s.p.k) := fun _ => rfl
 have f25 : ∀ s : Wk, (wc s)[25]? = some (.int .u64 s.p.v) := fun _ => rfl
 have t30 : (s.p.ln == 30) = false := jB hl
 have t31 : (s.p.ln == 31) = false := jB hl
 have t32 : (s.p.ln == 32) = true := jB hl
 have x0 := h.X.cells
 clear hl
 go_enter Tryz.func164, Tryz.ntmps164
 have lx := h.lt
 have lg := h.M.lt.1
 go_wp2
 have HHO := Lib.hid (fun (n : Gr w) => slHomeC (h.M.keep n.2) hf s.p.k)
 refine aH 12 ah ah ?_
 simp only [List.take_succ_cons, List.take_zero, List.drop_succ_cons, List.drop_zero]
 have hg := @cK
 repeat (go_big_quiet_step (first | exact grown_of (HHO.out _) | exact bU (Pk.slab _ _ _ _)))
 refine wpQuiet_nil ?_
 rintro w1 ⟨⟨_, hb1⟩, rfl⟩
 clear hg
 have H1 := h.keep hb1
 clear x0 lx lg hb1 HHO
 go_wp2_with fail
 refine (iA H1.M hm _ _).mono ?_
 rintro en w2 ⟨rfl, M2, T2⟩
 have H2 := H1.mem M2 T2
 clear H1 M2 T2
 have H3 := H2.set (s' := { s with p := { s.p with k := 0 } }) 19 (.int .i64 0) rfl
 have xw2 := H2.X.cells
 have zw2 := H2.X.frozen
 have ew2_19 : (w2.cell? ⟨gx, 19, none⟩).isSome = true := by rw [xw2, f19]; rfl
 go_wp2
 go_ret2
 exact ⟨rfl, H3⟩
theorem slLookr {B : Nat} {w0 w : World} {g gl cap gx : Nat} {c : Cfg} {a : Acc} {L : List Int} {s : Wk} (h : MX B w0 g gl cap gx c a L s w) (hm : L.length ≤ 1000) (hL : WR L) (hf : c.Wf) (he : s.p.ep < 18446744073709551616) (hr : rdyB (ldV L (aS c s.p.j)) s.p.ep = true) : Calls Tryz.prog 192 #[.pointer (some ⟨g, 0, none⟩), .pointer (some ⟨gx, 0, none⟩)] w fun e w' => e = .returned (.int .i64 0) ∧ MX B w0 g gl cap gx c (acc L 1 (aS c s.p.j) 0 0) (L) { s with p := { s.p with v := ldV L (aS c s.p.j), ln := 34 } } w' := by
 have f0 : ∀ s : Wk, (wc s)[0]? = some (.int .i64 s.p.ln) := fun _ => rfl
 have f9 : ∀ s : Wk, (wc s)[9]? = some (.int .u64 s.p.ep) := fun _ => rfl
 have f25 : ∀ s : Wk, (wc s)[25]? = some (.int .u64 s.p.v) := fun _ => rfl
 have f28 : ∀ s : Wk, (wc s)[28]? = some (.int .i64 s.p.j) := fun _ => rfl
 have hv := dP hL (aS c s.p.j)
 have HR := Lib.hid hr
 have HEP := Lib.hid he
 have HAN := Lib.hid (fun w => Pl.slab c hf s.p.j w)
 clear hr he
 have x0 := h.X.cells
 go_enter Tryz.func192, Tryz.ntmps192
 go_wp2
 have hS0 : ∃ a' v', MX B w0 g gl cap gx c a' L { s with p := { s.p with v := v' } } w.drew := ⟨a, s.p.v, h.keep (Below.drew (Below.refl _ _))⟩
 refine wp_region_held_drew (S := fun w' => ∃ a' v', MX B w0 g gl cap gx c a' L { s with p := { s.p with v := v' } } w') ah hS0 (fun hHeld => ?_)
 clear h hS0 x0
 generalize w.drew = vv at *
 refine jT 0 (.pointer (some ⟨gx, 0, none⟩)) rfl hHeld ?_
 try simp only [Act.put, jP]
 refine jT 1 (.pointer (some ⟨g, 0, none⟩)) rfl hHeld ?_
 try simp only [Act.put, jP]
 refine jT 2 (.pointer (some ⟨g, 0, none⟩)) rfl hHeld ?_
 try simp only [Act.put, jP]
 refine jT 3 (.pointer (some ⟨g, 0, none⟩)) rfl hHeld ?_
 try simp only [Act.put, jP]
 refine jT 4 (.pointer (some ⟨g, 0, none⟩)) rfl hHeld ?_
 try simp only [Act.put, jP]
 refine jY 5 (cv c) rfl (Or.inl ⟨by rfl, fun w' hSw => by obtain ⟨a', v', HS⟩ := hSw; have xx := HS.M.B.cells; go_simp⟩) hHeld ?_
 try simp only [Act.put, jP]
 refine jT 6 (.pointer (some ⟨gx, 0, none⟩)) rfl hHeld ?_
 try simp only [Act.put, jP]
 refine jT 7 (.pointer (some ⟨gx, 0, none⟩)) rfl hHeld ?_
 try simp only [Act.put, jP]
 refine jT 8 (.pointer (some ⟨gx, 28, none⟩)) rfl hHeld ?_
 try simp only [Act.put, jP]
 refine jY 9 (.int .i64 s.p.j) rfl (Or.inl ⟨by rfl, fun w' hSw => by obtain ⟨a', v', HS⟩ := hSw; have xx := HS.X.cells; go_simp⟩) hHeld ?_
 try simp only [Act.put, jP]
 refine jR [10] ?_
 refine jC rfl (fun K hK => ?_) jN
 go_simp
 refine (HAN.out _).mono ?_
 rintro en z1 ⟨rfl, hb⟩
 obtain ⟨a1, v1, H1⟩ := hHeld
 refine hK.out _ _ ⟨a1, v1, H1.keep hb⟩ (fun hHeld => ?_)
 clear hK K H1 hb
 try simp only [Act.put, jP]
 refine jR [11] ?_
 refine jC rfl (fun K hK => ?_) jN
 go_simp
 obtain ⟨a1, v1, H1⟩ := hHeld
 refine (bF H1.M hm _).mono ?_
 rintro en z2 ⟨rfl, M2, T2⟩
 have H2 := H1.mem M2 T2
 refine hK.out _ _ ⟨_, v1, H2⟩ (fun hHeld => ?_)
 clear hK K H1 M2 T2
 obtain ⟨lj, hlj⟩ : ∃ v, v = ldV L (aS c s.p.j) := ⟨_, rfl⟩
 simp only [← hlj]
 rw [← hlj] at hv HR
 have HV := Lib.hid hlj
 clear hlj
 try simp only [Act.put, jP]
 refine jT 12 (.pointer (some ⟨gx, 0, none⟩)) rfl hHeld ?_
 try simp only [Act.put, jP]
 refine jT 13 (.pointer (some ⟨gx, 25, none⟩)) rfl hHeld ?_
 try simp only [Act.put, jP]
 refine jR [14] ?_
 refine jC rfl (fun K hK => ?_) jN
 have x2 := H2.X.cells
 have z2f := H2.X.frozen
 have e25 : (z2.cell? ⟨gx, 25, none⟩).isSome = true := qa5z
 have H3 := H2.set (s' := { s with p := { s.p with v := lj } }) 25 (.int .u64 lj) rfl
 go_simp
 refine hK.out _ _ ⟨_, lj, H3⟩ (fun hHeld => ?_)
 clear hK K H2 x2 z2f e25
 try simp only [Act.put, jP]
 refine wpAnyH_done ah ?_ _
 clear hHeld
 obtain ⟨z3, hz3⟩ : ∃ u, u = z2.setCell ⟨gx, 25, none⟩ (.int .u64 lj) := ⟨_, rfl⟩
 rw [← hz3] at H3 ⊢
 clear hz3
 have x3 := H3.X.cells
 have l3 := H3.lt
 have HRD := Lib.hid (fun w => HR.out ▸ ready lj s.p.ep hv.1 hv.2 HEP.out w)
 clear hv
 go_wp2
 refine aN ah ah ?_
 have hg := @cK
 repeat (go_big_quiet_step (exact grown_of (HRD.out _)))
 refine wpQuiet_nil ?_
 rintro w5 ⟨⟨_, hb5⟩, rfl⟩
 clear hg
 have H5 := H3.keep hb5
 clear x3 l3 H3 hb5
 have H6 := H5.set (s' := { s with p := { s.p with v := lj, ln := 34 } }) 0 (.int .i64 34) rfl
 have xw5 := H5.X.cells
 have zw5 := H5.X.frozen
 have ew5_0 : (w5.cell? ⟨gx, 0, none⟩).isSome = true := by rw [xw5, f0]; rfl
 go_wp2
 go_ret
 have e1 := HV.out
 subst e1
 exact ⟨rfl, H6⟩
theorem sll33r {B : Nat} {w0 w : World} {g gl cap gx : Nat} {c : Cfg} {a : Acc} {L : List Int} {s : Wk} (h : MX B w0 g gl cap gx c a L s w) (hm : L.length ≤ 1000) (hL : WR L) (hf : c.Wf) (he : s.p.ep < 18446744073709551616) (hl : s.p.ln = 33) (hr : rdyB (ldV L (aS c s.p.j)) s.p.ep = true) : Calls Tryz.prog 164 #[.pointer (some ⟨g, 0, none⟩), .pointer (some ⟨gx, 0, none⟩)] w (LP B w0 g gl cap gx c ⟨acc L 1 (aS c s.p.j) 0 0, L, { s.p with v := ldV L (aS c s.p.j), ln := 34 }, 0, true⟩ s) := by
 have HC := Lib.hid (slLookr h hm hL hf he hr)
 clear hr
 exact qa49
theorem slLookg {B : Nat} {w0 w : World} {g gl cap gx : Nat} {c : Cfg} {a : Acc} {L : List Int} {s : Wk} (h : MX B w0 g gl cap gx c a L s w) (hm : L.length ≤ 1000) (hL : WR L) (hf : c.Wf) (he : s.p.ep < 18446744073709551616) (hr : rdyB (ldV L (aS c s.p.j)) s.p.ep = false) (hj : c.sl ≤ wrap64 (s.p.j + 1)) : Calls Tryz.prog 192 #[.pointer (some ⟨g, 0, none⟩), .pointer (some ⟨gx, 0, none⟩)] w fun e w' => e = .returned (.int .i64 2) ∧ MX B w0 g gl cap gx c (acc L 1 (aS c s.p.j) 0 0) (L) { s with p := { s.p with v := ldV L (aS c s.p.j), j := wrap64 (s.p.j + 1) } } w' := by
 have f0 : ∀ s : Wk, (wc s)[0]? = some (.int .i64 s.p.ln) := fun _ => rfl
 have f9 : ∀ s : Wk, (wc s)[9]? = some (.int .u64 s.p.ep) := fun _ => rfl
 have f25 : ∀ s : Wk, (wc s)[25]? = some (.int .u64 s.p.v) := fun _ => rfl
 have f28 : ∀ s : Wk, (wc s)[28]? = some (.int .i64 s.p.j) := fun _ => rfl
 have hv := dP hL (aS c s.p.j)
 have HR := Lib.hid hr
 have HEP := Lib.hid he
 have HAN := Lib.hid (fun w => Pl.slab c hf s.p.j w)
 clear hr he
 have hd : decide (c.sl ≤ wrap64 (s.p.j + 1)) = true := by simp [hj]
 exact qa2d
theorem sll33g {B : Nat} {w0 w : World} {g gl cap gx : Nat} {c : Cfg} {a : Acc} {L : List Int} {s : Wk} (h : MX B w0 g gl cap gx c a L s w) (hm : L.length ≤ 1000) (hL : WR L) (hf : c.Wf) (he : s.p.ep < 18446744073709551616) (hl : s.p.ln = 33) (hr : rdyB (ldV L (aS c s.p.j)) s.p.ep = false) (hj : c.sl ≤ wrap64 (s.p.j + 1)) : Calls Tryz.prog 164 #[.pointer (some ⟨g, 0, none⟩), .pointer (some ⟨gx, 0, none⟩)] w (LP B w0 g gl cap gx c ⟨acc L 1 (aS c s.p.j) 0 0, L, { s.p with v := ldV L (aS c s.p.j), j := wrap64 (s.p.j + 1) }, 2, true⟩ s) := by
 have HC := Lib.hid (slLookg h hm hL hf he hr hj)
 exact qa2e
theorem slLookn {B : Nat} {w0 w : World} {g gl cap gx : Nat} {c : Cfg} {a : Acc} {L : List Int} {s : Wk} (h : MX B w0 g gl cap gx c a L s w) (hm : L.length ≤ 1000) (hL : WR L) (hf : c.Wf) (he : s.p.ep < 18446744073709551616) (hr : rdyB (ldV L (aS c s.p.j)) s.p.ep = false) (hj : ¬ c.sl ≤ wrap64 (s.p.j + 1)) : Calls Tryz.prog 192 #[.pointer (some ⟨g, 0, none⟩), .pointer (some ⟨gx, 0, none⟩)] w fun e w' => e = .returned (.int .i64 0) ∧ MX B w0 g gl cap gx c (acc L 1 (aS c s.p.j) 0 0) (L) { s with p := { s.p with v := ldV L (aS c s.p.j), j := wrap64 (s.p.j + 1) } } w' := by
 have f0 : ∀ s : Wk, (wc s)[0]? = some (.int .i64 s.p.ln) := fun _ => rfl
 have f9 : ∀ s : Wk, (wc s)[9]? = some (.int .u64 s.p.ep) := fun _ => rfl
 have f25 : ∀ s : Wk, (wc s)[25]? = some (.int .u64 s.p.v) := fun _ => rfl
 have f28 : ∀ s : Wk, (wc s)[28]? = some (.int .i64 s.p.j) := fun _ => rfl
 have hv := dP hL (aS c s.p.j)
 have HR := Lib.hid hr
 have HEP := Lib.hid he
 have HAN := Lib.hid (fun w => Pl.slab c hf s.p.j w)
 clear hr he
 have hd : decide (c.sl ≤ wrap64 (s.p.j + 1)) = false := bq
 exact qa2d
theorem sll33n {B : Nat} {w0 w : World} {g gl cap gx : Nat} {c : Cfg} {a : Acc} {L : List Int} {s : Wk} (h : MX B w0 g gl cap gx c a L s w) (hm : L.length ≤ 1000) (hL : WR L) (hf : c.Wf) (he : s.p.ep < 18446744073709551616) (hl : s.p.ln = 33) (hr : rdyB (ldV L (aS c s.p.j)) s.p.ep = false) (hj : ¬ c.sl ≤ wrap64 (s.p.j + 1)) : Calls Tryz.prog 164 #[.pointer (some ⟨g, 0, none⟩), .pointer (some ⟨gx, 0, none⟩)] w (LP B w0 g gl cap gx c ⟨acc L 1 (aS c s.p.j) 0 0, L, { s.p with v := ldV L (aS c s.p.j), j := wrap64 (s.p.j + 1) }, 0, true⟩ s) := by
 have HC := Lib.hid (slLookn h hm hL hf he hr hj)
 exact qa2e
theorem slChangeY {B : Nat} {w0 w : World} {g gl cap gx : Nat} {c : Cfg} {a : Acc} {L : List Int} {s : Wk} (h : MX B w0 g gl cap gx c a L s w) (hm : L.length ≤ 1000) (hL : WR L) (hf : c.Wf) (jj st : Int) (hst : Pk.sl st 0 0 = st) (hb : csB L (aS c jj) s.p.v = true) : Calls Tryz.prog 193 #[.pointer (some ⟨g, 0, none⟩), .pointer (some ⟨gx, 0, none⟩), .int .i64 jj, .int .i64 st] w fun e w' => e = .returned (.int .i64 1) ∧ MX B w0 g gl cap gx c (acc L 3 (aS c jj) s.p.v st) (csL L (aS c jj) s.p.v st) s w' := by
 have f25 : ∀ s : Wk, (wc s)[25]? = some (.int .u64 s.p.v) := fun _ => rfl
 have HB := Lib.hid hb
 have HST := Lib.hid hst
 have HAN := Lib.hid (fun w => Pl.slab c hf jj w)
 have x0 := h.X.cells
 have m0 := h.M.B.cells
 have lx := h.lt
 have lg := h.M.lt.1
 clear hb hst
 go_enter Tryz.func193, Tryz.ntmps193
 go_wp2
 refine aH 13 ah ah ?_
 simp only [List.take_succ_cons, List.take_zero, List.drop_succ_cons, List.drop_zero]
 have hg := @cK
 repeat (go_big_quiet_step (first | exact grown_of (HAN.out _) | exact bU (Pk.slab st 0 0 _)))
 refine wpQuiet_nil ?_
 rintro w1 ⟨⟨_, hb1⟩, rfl⟩
 clear hg
 rw [HST.out]
 have H1 := h.keep hb1
 have hcas := iw H1.M hm (aS c jj) s.p.v st
 rw [HB.out] at hcas
 have HCA := Lib.hid hcas
 clear hcas x0 m0 lx lg h hb1
 go_wp2_with fail
 refine HCA.out.mono ?_
 rintro en w2 ⟨rfl, M2, T2⟩
 have H2 := H1.mem M2 T2
 go_wp2
 go_ret
 exact ⟨rfl, H2⟩
theorem sll34y {B : Nat} {w0 w : World} {g gl cap gx : Nat} {c : Cfg} {a : Acc} {L : List Int} {s : Wk} (h : MX B w0 g gl cap gx c a L s w) (hm : L.length ≤ 1000) (hL : WR L) (hf : c.Wf) (hl : s.p.ln = 34) (hb : csB L (aS c s.p.j) s.p.v = true) : Calls Tryz.prog 164 #[.pointer (some ⟨g, 0, none⟩), .pointer (some ⟨gx, 0, none⟩)] w (LP B w0 g gl cap gx c ⟨acc L 3 (aS c s.p.j) s.p.v 1, csL L (aS c s.p.j) s.p.v 1, s.p, 1, true⟩ s) := by
 have HC := Lib.hid (slChangeY h hm hL hf s.p.j 1 aL hb)
 clear hb
 have f0 : ∀ s : Wk, (wc s)[0]? = some (.int .i64 s.p.ln) := fun _ => rfl
 have f28 : ∀ s : Wk, (wc s)[28]? = some (.int .i64 s.p.j) := fun _ => rfl
 have t30 : (s.p.ln == 30) = false := jB hl
 have t31 : (s.p.ln == 31) = false := jB hl
 have t32 : (s.p.ln == 32) = false := jB hl
 have t33 : (s.p.ln == 33) = false := jB hl
 have t34 : (s.p.ln == 34) = true := jB hl
 exact qa2c
theorem sll37y {B : Nat} {w0 w : World} {g gl cap gx : Nat} {c : Cfg} {a : Acc} {L : List Int} {s : Wk} (h : MX B w0 g gl cap gx c a L s w) (hm : L.length ≤ 1000) (hL : WR L) (hf : c.Wf) (hl : s.p.ln = 37) (hb : csB L (aS c s.p.o3) s.p.v = true) : Calls Tryz.prog 164 #[.pointer (some ⟨g, 0, none⟩), .pointer (some ⟨gx, 0, none⟩)] w (LP B w0 g gl cap gx c ⟨acc L 3 (aS c s.p.o3) s.p.v 2, csL L (aS c s.p.o3) s.p.v 2, s.p, 1, true⟩ s) := by
 have HC := Lib.hid (slChangeY h hm hL hf s.p.o3 2 aL hb)
 clear hb
 have f0 : ∀ s : Wk, (wc s)[0]? = some (.int .i64 s.p.ln) := fun _ => rfl
 have f4 : ∀ s : Wk, (wc s)[4]? = some (.int .i64 s.p.o3) := fun _ => rfl
 have t30 : (s.p.ln == 30) = false := jB hl
 have t31 : (s.p.ln == 31) = false := jB hl
 have t32 : (s.p.ln == 32) = false := jB hl
 have t33 : (s.p.ln == 33) = false := jB hl
 have t34 : (s.p.ln == 34) = false := jB hl
 have t35 : (s.p.ln == 35) = false := jB hl
 have t36 : (s.p.ln == 36) = false := jB hl
 have t37 : (s.p.ln == 37) = true := jB hl
 exact qa2c
theorem slChangeN {B : Nat} {w0 w : World} {g gl cap gx : Nat} {c : Cfg} {a : Acc} {L : List Int} {s : Wk} (h : MX B w0 g gl cap gx c a L s w) (hm : L.length ≤ 1000) (hL : WR L) (hf : c.Wf) (jj st : Int) (hst : Pk.sl st 0 0 = st) (hb : csB L (aS c jj) s.p.v = false) : Calls Tryz.prog 193 #[.pointer (some ⟨g, 0, none⟩), .pointer (some ⟨gx, 0, none⟩), .int .i64 jj, .int .i64 st] w fun e w' => e = .returned (.int .i64 0) ∧ MX B w0 g gl cap gx c (acc L 3 (aS c jj) s.p.v st) (csL L (aS c jj) s.p.v st) { s with p := { s.p with ln := wrap64 (s.p.ln - 1) } } w' := by
 have f25 : ∀ s : Wk, (wc s)[25]? = some (.int .u64 s.p.v) := fun _ => rfl
 have f0 : ∀ s : Wk, (wc s)[0]? = some (.int .i64 s.p.ln) := fun _ => rfl
 have HB := Lib.hid hb
 have HST := Lib.hid hst
 have HAN := Lib.hid (fun w => Pl.slab c hf jj w)
 have x0 := h.X.cells
 have m0 := h.M.B.cells
 have lx := h.lt
 have lg := h.M.lt.1
 clear hb hst
 go_enter Tryz.func193, Tryz.ntmps193
 go_wp2
 refine aH 13 ah ah ?_
 simp only [List.take_succ_cons, List.take_zero, List.drop_succ_cons, List.drop_zero]
 have hg := @cK
 repeat (go_big_quiet_step (first | exact grown_of (HAN.out _) | exact bU (Pk.slab st 0 0 _)))
 refine wpQuiet_nil ?_
 rintro w1 ⟨⟨_, hb1⟩, rfl⟩
 clear hg
 rw [HST.out]
 have H1 := h.keep hb1
 have hcas := iw H1.M hm (aS c jj) s.p.v st
 rw [HB.out] at hcas
 have HCA := Lib.hid hcas
 clear hcas x0 m0 lx lg h hb1
 go_wp2_with fail
 refine HCA.out.mono ?_
 rintro en w2 ⟨rfl, M2, T2⟩
 have H2 := H1.mem M2 T2
 have H3 := H2.set (s' := { s with p := { s.p with ln := wrap64 (s.p.ln - 1) } }) 0 (.int .i64 (wrap64 (s.p.ln - 1))) rfl
 have xw2 := H2.X.cells
 have zw2 := H2.X.frozen
 have ew2_0 : (w2.cell? ⟨gx, 0, none⟩).isSome = true := qa5g
 go_wp2
 go_ret
 exact ⟨rfl, H3⟩
theorem sll34n {B : Nat} {w0 w : World} {g gl cap gx : Nat} {c : Cfg} {a : Acc} {L : List Int} {s : Wk} (h : MX B w0 g gl cap gx c a L s w) (hm : L.length ≤ 1000) (hL : WR L) (hf : c.Wf) (hl : s.p.ln = 34) (hb : csB L (aS c s.p.j) s.p.v = false) : Calls Tryz.prog 164 #[.pointer (some ⟨g, 0, none⟩), .pointer (some ⟨gx, 0, none⟩)] w (LP B w0 g gl cap gx c ⟨acc L 3 (aS c s.p.j) s.p.v 1, csL L (aS c s.p.j) s.p.v 1, { s.p with ln := 33 }, 0, true⟩ s) := by
 have HC := Lib.hid (slChangeN h hm hL hf s.p.j 1 aL hb)
 clear hb
 have HW := Lib.hid (show wrap64 (s.p.ln - 1) = 33 by rw [hl]; exact IntWalk.wrap64_in _ aj)
 have f0 : ∀ s : Wk, (wc s)[0]? = some (.int .i64 s.p.ln) := fun _ => rfl
 have f28 : ∀ s : Wk, (wc s)[28]? = some (.int .i64 s.p.j) := fun _ => rfl
 have t30 : (s.p.ln == 30) = false := jB hl
 have t31 : (s.p.ln == 31) = false := jB hl
 have t32 : (s.p.ln == 32) = false := jB hl
 have t33 : (s.p.ln == 33) = false := jB hl
 have t34 : (s.p.ln == 34) = true := jB hl
 exact qa2f
theorem sll37n {B : Nat} {w0 w : World} {g gl cap gx : Nat} {c : Cfg} {a : Acc} {L : List Int} {s : Wk} (h : MX B w0 g gl cap gx c a L s w) (hm : L.length ≤ 1000) (hL : WR L) (hf : c.Wf) (hl : s.p.ln = 37) (hb : csB L (aS c s.p.o3) s.p.v = false) : Calls Tryz.prog 164 #[.pointer (some ⟨g, 0, none⟩), .pointer (some ⟨gx, 0, none⟩)] w (LP B w0 g gl cap gx c ⟨acc L 3 (aS c s.p.o3) s.p.v 2, csL L (aS c s.p.o3) s.p.v 2, { s.p with ln := 36 }, 0, true⟩ s) := by
 have HC := Lib.hid (slChangeN h hm hL hf s.p.o3 2 aL hb)
 clear hb
 have HW := Lib.hid (show wrap64 (s.p.ln - 1) = 36 by rw [hl]; exact IntWalk.wrap64_in _ aj)
 have f0 : ∀ s : Wk, (wc s)[0]? = some (.int .i64 s.p.ln) := fun _ => rfl
 have f4 : ∀ s : Wk, (wc s)[4]? = some (.int .i64 s.p.o3) := fun _ => rfl
 have t30 : (s.p.ln == 30) = false := jB hl
 have t31 : (s.p.ln == 31) = false := jB hl
 have t32 : (s.p.ln == 32) = false := jB hl
 have t33 : (s.p.ln == 33) = false := jB hl
 have t34 : (s.p.ln == 34) = false := jB hl
 have t35 : (s.p.ln == 35) = false := jB hl
 have t36 : (s.p.ln == 36) = false := jB hl
 have t37 : (s.p.ln == 37) = true := jB hl
 exact qa2f
theorem slRefuseY {B : Nat} {w0 w : World} {g gl cap gx : Nat} {c : Cfg} {a : Acc} {L : List Int} {s : Wk} (h : MX B w0 g gl cap gx c a L s w) (hm : L.length ≤ 1000) (hL : WR L) (hf : c.Wf) (k : Int) (hs : ldV L (aZ c k) % 16 = 2) : Calls Tryz.prog 194 #[.pointer (some ⟨g, 0, none⟩), .int .i64 k] w fun e w' => e = .returned (.int .i64 2) ∧ MX B w0 g gl cap gx c (acc L 1 (aZ c k) 0 0) (L) s w' := by
 have HS := Lib.hid hs
 have hv := dP hL (aZ c k)
 have HHO := Lib.hid (slHomeC h.M hf k)
 clear hs
 go_enter Tryz.func194, Tryz.ntmps194
 go_wp2_with fail
 refine HHO.out.mono ?_
 rintro en w1 ⟨rfl, hb1⟩
 have H1 := h.keep hb1
 clear HHO hb1
 go_wp2_with fail
 refine (bF H1.M hm _).mono ?_
 rintro en w2 ⟨rfl, M2, T2⟩
 have H2 := H1.mem M2 T2
 obtain ⟨v0, hv0⟩ : ∃ v, v = ldV L (aZ c k) := ⟨_, rfl⟩
 rw [← hv0] at HS hv
 simp only [← hv0]
 clear hv0 H1 M2 T2
 go_wp2_with fail
 refine (stateOf v0 hv.1 hv.2 _).mono ?_
 rintro en w3 ⟨rfl, hb3⟩
 have H3 := H2.keep hb3
 have te : (v0 % 16 == 2) = true := by have := HS.out; simp [this]
 clear hv
 go_wp2
 go_ret
 exact ⟨rfl, H3⟩
theorem sll35y {B : Nat} {w0 w : World} {g gl cap gx : Nat} {c : Cfg} {a : Acc} {L : List Int} {s : Wk} (h : MX B w0 g gl cap gx c a L s w) (hm : L.length ≤ 1000) (hL : WR L) (hf : c.Wf) (hl : s.p.ln = 35) (hs : ldV L (aZ c s.p.b) % 16 = 2) : Calls Tryz.prog 164 #[.pointer (some ⟨g, 0, none⟩), .pointer (some ⟨gx, 0, none⟩)] w (LP B w0 g gl cap gx c ⟨acc L 1 (aZ c s.p.b) 0 0, L, s.p, 2, true⟩ s) := by
 have HC := Lib.hid (slRefuseY h hm hL hf s.p.b hs)
 exact qa2g
theorem sll39y {B : Nat} {w0 w : World} {g gl cap gx : Nat} {c : Cfg} {a : Acc} {L : List Int} {s : Wk} (h : MX B w0 g gl cap gx c a L s w) (hm : L.length ≤ 1000) (hL : WR L) (hf : c.Wf) (hl : s.p.ln = 39) (hs : ldV L (aZ c s.p.k) % 16 = 2) : Calls Tryz.prog 164 #[.pointer (some ⟨g, 0, none⟩), .pointer (some ⟨gx, 0, none⟩)] w (LP B w0 g gl cap gx c ⟨acc L 1 (aZ c s.p.k) 0 0, L, s.p, 2, true⟩ s) := by
 have HC := Lib.hid (slRefuseY h hm hL hf s.p.k hs)
 exact qa2h
theorem slRefuseN {B : Nat} {w0 w : World} {g gl cap gx : Nat} {c : Cfg} {a : Acc} {L : List Int} {s : Wk} (h : MX B w0 g gl cap gx c a L s w) (hm : L.length ≤ 1000) (hL : WR L) (hf : c.Wf) (k : Int) (hs : ldV L (aZ c k) % 16 ≠ 2) : Calls Tryz.prog 194 #[.pointer (some ⟨g, 0, none⟩), .int .i64 k] w fun e w' => e = .returned (.int .i64 1) ∧ MX B w0 g gl cap gx c (acc L 1 (aZ c k) 0 0) (L) s w' := by
 have HS := Lib.hid hs
 have hv := dP hL (aZ c k)
 have HHO := Lib.hid (slHomeC h.M hf k)
 clear hs
 go_enter Tryz.func194, Tryz.ntmps194
 go_wp2_with fail
 refine HHO.out.mono ?_
 rintro en w1 ⟨rfl, hb1⟩
 have H1 := h.keep hb1
 clear HHO hb1
 go_wp2_with fail
 refine (bF H1.M hm _).mono ?_
 rintro en w2 ⟨rfl, M2, T2⟩
 have H2 := H1.mem M2 T2
 obtain ⟨v0, hv0⟩ : ∃ v, v = ldV L (aZ c k) := ⟨_, rfl⟩
 rw [← hv0] at HS hv
 simp only [← hv0]
 clear hv0 H1 M2 T2
 go_wp2_with fail
 refine (stateOf v0 hv.1 hv.2 _).mono ?_
 rintro en w3 ⟨rfl, hb3⟩
 have H3 := H2.keep hb3
 have te : (v0 % 16 == 2) = false := by have := HS.out; simp [this]
 clear hv
 go_wp2
 go_ret
 exact ⟨rfl, H3⟩
theorem sll35n {B : Nat} {w0 w : World} {g gl cap gx : Nat} {c : Cfg} {a : Acc} {L : List Int} {s : Wk} (h : MX B w0 g gl cap gx c a L s w) (hm : L.length ≤ 1000) (hL : WR L) (hf : c.Wf) (hl : s.p.ln = 35) (hs : ldV L (aZ c s.p.b) % 16 ≠ 2) : Calls Tryz.prog 164 #[.pointer (some ⟨g, 0, none⟩), .pointer (some ⟨gx, 0, none⟩)] w (LP B w0 g gl cap gx c ⟨acc L 1 (aZ c s.p.b) 0 0, L, s.p, 1, true⟩ s) := by
 have HC := Lib.hid (slRefuseN h hm hL hf s.p.b hs)
 exact qa2g
theorem sll39n {B : Nat} {w0 w : World} {g gl cap gx : Nat} {c : Cfg} {a : Acc} {L : List Int} {s : Wk} (h : MX B w0 g gl cap gx c a L s w) (hm : L.length ≤ 1000) (hL : WR L) (hf : c.Wf) (hl : s.p.ln = 39) (hs : ldV L (aZ c s.p.k) % 16 ≠ 2) : Calls Tryz.prog 164 #[.pointer (some ⟨g, 0, none⟩), .pointer (some ⟨gx, 0, none⟩)] w (LP B w0 g gl cap gx c ⟨acc L 1 (aZ c s.p.k) 0 0, L, s.p, 1, true⟩ s) := by
 have HC := Lib.hid (slRefuseN h hm hL hf s.p.k hs)
 exact qa2h
theorem sll36y {B : Nat} {w0 w : World} {g gl cap gx : Nat} {c : Cfg} {a : Acc} {L : List Int} {s : Wk} (h : MX B w0 g gl cap gx c a L s w) (hm : L.length ≤ 1000) (hL : WR L) (hf : c.Wf) (hl : s.p.ln = 36) (hr : ldV L (aS c s.p.o3) % 16 = 1) : Calls Tryz.prog 164 #[.pointer (some ⟨g, 0, none⟩), .pointer (some ⟨gx, 0, none⟩)] w (LP B w0 g gl cap gx c ⟨acc L 1 (aS c s.p.o3) 0 0, L, { s.p with v := ldV L (aS c s.p.o3), ln := 37 }, 0, true⟩ s) := by
 have hv := dP hL (aS c s.p.o3)
 have HR := Lib.hid hr
 have HAN := Lib.hid (fun w => Pl.slab c hf s.p.o3 w)
 clear hr
 have f0 : ∀ s : Wk, (wc s)[0]? = some (.int .i64 s.p.ln) := fun _ => rfl
 have f1 : ∀ s : Wk, (wc s)[1]? = some (.int .i64 s.p.o0) := fun _ => rfl
 have f4 : ∀ s : Wk, (wc s)[4]? = some (.int .i64 s.p.o3) := fun _ => rfl
 have f25 : ∀ s : Wk, (wc s)[25]? = some (.int .u64 s.p.v) := fun _ => rfl
 have t30 : (s.p.ln == 30) = false := jB hl
 have t31 : (s.p.ln == 31) = false := jB hl
 have t32 : (s.p.ln == 32) = false := jB hl
 have t33 : (s.p.ln == 33) = false := jB hl
 have t34 : (s.p.ln == 34) = false := jB hl
 have t35 : (s.p.ln == 35) = false := jB hl
 have t36 : (s.p.ln == 36) = true := jB hl
 have x0 := h.X.cells
 clear hl
 go_enter Tryz.func164, Tryz.ntmps164
 go_wp2
 have hS0 : ∃ a' v', MX B w0 g gl cap gx c a' L { s with p := { s.p with v := v' } } w.drew := ⟨a, s.p.v, h.keep (Below.drew (Below.refl _ _))⟩
 refine wp_region_held_drew (S := fun w' => ∃ a' v', MX B w0 g gl cap gx c a' L { s with p := { s.p with v := v' } } w') ah hS0 (fun hHeld => ?_)
 clear h hS0 x0
 generalize w.drew = vv at *
 refine jT 0 (.pointer (some ⟨gx, 0, none⟩)) rfl hHeld ?_
 try simp only [Act.put, jP]
 refine jT 1 (.pointer (some ⟨g, 0, none⟩)) rfl hHeld ?_
 try simp only [Act.put, jP]
 refine jT 2 (.pointer (some ⟨g, 0, none⟩)) rfl hHeld ?_
 try simp only [Act.put, jP]
 refine jT 3 (.pointer (some ⟨g, 0, none⟩)) rfl hHeld ?_
 try simp only [Act.put, jP]
 refine jT 4 (.pointer (some ⟨g, 0, none⟩)) rfl hHeld ?_
 try simp only [Act.put, jP]
 refine jY 5 (cv c) rfl (Or.inl ⟨by rfl, fun w' hSw => by obtain ⟨a', v', HS⟩ := hSw; have xx := HS.M.B.cells; go_simp⟩) hHeld ?_
 try simp only [Act.put, jP]
 refine jT 6 (.pointer (some ⟨gx, 0, none⟩)) rfl hHeld ?_
 try simp only [Act.put, jP]
 refine jT 7 (.pointer (some ⟨gx, 0, none⟩)) rfl hHeld ?_
 try simp only [Act.put, jP]
 refine jT 8 (.pointer (some ⟨gx, 1, none⟩)) rfl hHeld ?_
 try simp only [Act.put, jP]
 refine jT 9 (.pointer (some ⟨gx, 4, none⟩)) rfl hHeld ?_
 try simp only [Act.put, jP]
 refine jY 10 (.int .i64 s.p.o3) rfl (Or.inl ⟨by rfl, fun w' hSw => by obtain ⟨a', v', HS⟩ := hSw; have xx := HS.X.cells; go_simp⟩) hHeld ?_
 try simp only [Act.put, jP]
 refine jR [11] ?_
 refine jC rfl (fun K hK => ?_) jN
 go_simp
 refine (HAN.out _).mono ?_
 rintro en z1 ⟨rfl, hb⟩
 obtain ⟨a1, v1, H1⟩ := hHeld
 refine hK.out _ _ ⟨a1, v1, H1.keep hb⟩ (fun hHeld => ?_)
 clear hK K H1 hb
 try simp only [Act.put, jP]
 refine jR [12] ?_
 refine jC rfl (fun K hK => ?_) jN
 go_simp
 obtain ⟨a1, v1, H1⟩ := hHeld
 refine (bF H1.M hm _).mono ?_
 rintro en z2 ⟨rfl, M2, T2⟩
 have H2 := H1.mem M2 T2
 refine hK.out _ _ ⟨_, v1, H2⟩ (fun hHeld => ?_)
 clear hK K H1 M2 T2
 obtain ⟨lj, hlj⟩ : ∃ v, v = ldV L (aS c s.p.o3) := ⟨_, rfl⟩
 simp only [← hlj]
 rw [← hlj] at hv HR
 have HV := Lib.hid hlj
 clear hlj
 try simp only [Act.put, jP]
 refine jT 13 (.pointer (some ⟨gx, 0, none⟩)) rfl hHeld ?_
 try simp only [Act.put, jP]
 refine jT 14 (.pointer (some ⟨gx, 25, none⟩)) rfl hHeld ?_
 try simp only [Act.put, jP]
 refine jR [15] ?_
 refine jC rfl (fun K hK => ?_) jN
 have x2 := H2.X.cells
 have z2f := H2.X.frozen
 have e25 : (z2.cell? ⟨gx, 25, none⟩).isSome = true := qa5z
 have H3 := H2.set (s' := { s with p := { s.p with v := lj } }) 25 (.int .u64 lj) rfl
 go_simp
 refine hK.out _ _ ⟨_, lj, H3⟩ (fun hHeld => ?_)
 clear hK K H2 x2 z2f e25
 try simp only [Act.put, jP]
 refine wpAnyH_done ah ?_ _
 clear hHeld
 obtain ⟨z3, hz3⟩ : ∃ u, u = z2.setCell ⟨gx, 25, none⟩ (.int .u64 lj) := ⟨_, rfl⟩
 rw [← hz3] at H3 ⊢
 clear hz3
 have x3 := H3.X.cells
 have l3 := H3.lt
 go_wp2_with fail
 refine (stateOf lj hv.1 hv.2 _).mono ?_
 rintro en w5 ⟨rfl, hb5⟩
 have H5 := H3.keep hb5
 have te : (lj % 16 != 1) = false := by have := HR.out; simp [this]
 clear x3 l3 H3 hb5 hv
 have H6 := H5.set (s' := { s with p := { s.p with v := lj, ln := 37 } }) 0 (.int .i64 37) rfl
 have xw5 := H5.X.cells
 have zw5 := H5.X.frozen
 have ew5_0 : (w5.cell? ⟨gx, 0, none⟩).isSome = true := by rw [xw5, f0]; rfl
 exact qa2i
theorem sll36n {B : Nat} {w0 w : World} {g gl cap gx : Nat} {c : Cfg} {a : Acc} {L : List Int} {s : Wk} (h : MX B w0 g gl cap gx c a L s w) (hm : L.length ≤ 1000) (hL : WR L) (hf : c.Wf) (hl : s.p.ln = 36) (hr : ldV L (aS c s.p.o3) % 16 ≠ 1) : Calls Tryz.prog 164 #[.pointer (some ⟨g, 0, none⟩), .pointer (some ⟨gx, 0, none⟩)] w (LP B w0 g gl cap gx c ⟨acc L 1 (aS c s.p.o3) 0 0, L, { s.p with v := ldV L (aS c s.p.o3) }, 2, true⟩ s) := by
 have hv := dP hL (aS c s.p.o3)
 have HR := Lib.hid hr
 have HAN := Lib.hid (fun w => Pl.slab c hf s.p.o3 w)
 clear hr
 have f0 : ∀ s : Wk, (wc s)[0]? = some (.int .i64 s.p.ln) := fun _ => rfl
 have f1 : ∀ s : Wk, (wc s)[1]? = some (.int .i64 s.p.o0) := fun _ => rfl
 have f4 : ∀ s : Wk, (wc s)[4]? = some (.int .i64 s.p.o3) := fun _ => rfl
 have f25 : ∀ s : Wk, (wc s)[25]? = some (.int .u64 s.p.v) := fun _ => rfl
 have t30 : (s.p.ln == 30) = false := jB hl
 have t31 : (s.p.ln == 31) = false := jB hl
 have t32 : (s.p.ln == 32) = false := jB hl
 have t33 : (s.p.ln == 33) = false := jB hl
 have t34 : (s.p.ln == 34) = false := jB hl
 have t35 : (s.p.ln == 35) = false := jB hl
 have t36 : (s.p.ln == 36) = true := jB hl
 have x0 := h.X.cells
 clear hl
 go_enter Tryz.func164, Tryz.ntmps164
 go_wp2
 have hS0 : ∃ a' v', MX B w0 g gl cap gx c a' L { s with p := { s.p with v := v' } } w.drew := ⟨a, s.p.v, h.keep (Below.drew (Below.refl _ _))⟩
 refine wp_region_held_drew (S := fun w' => ∃ a' v', MX B w0 g gl cap gx c a' L { s with p := { s.p with v := v' } } w') ah hS0 (fun hHeld => ?_)
 clear h hS0 x0
 generalize w.drew = vv at *
 refine jT 0 (.pointer (some ⟨gx, 0, none⟩)) rfl hHeld ?_
 try simp only [Act.put, jP]
 refine jT 1 (.pointer (some ⟨g, 0, none⟩)) rfl hHeld ?_
 try simp only [Act.put, jP]
 refine jT 2 (.pointer (some ⟨g, 0, none⟩)) rfl hHeld ?_
 try simp only [Act.put, jP]
 refine jT 3 (.pointer (some ⟨g, 0, none⟩)) rfl hHeld ?_
 try simp only [Act.put, jP]
 refine jT 4 (.pointer (some ⟨g, 0, none⟩)) rfl hHeld ?_
 try simp only [Act.put, jP]
 refine jY 5 (cv c) rfl (Or.inl ⟨by rfl, fun w' hSw => by obtain ⟨a', v', HS⟩ := hSw; have xx := HS.M.B.cells; go_simp⟩) hHeld ?_
 try simp only [Act.put, jP]
 refine jT 6 (.pointer (some ⟨gx, 0, none⟩)) rfl hHeld ?_
 try simp only [Act.put, jP]
 refine jT 7 (.pointer (some ⟨gx, 0, none⟩)) rfl hHeld ?_
 try simp only [Act.put, jP]
 refine jT 8 (.pointer (some ⟨gx, 1, none⟩)) rfl hHeld ?_
 try simp only [Act.put, jP]
 refine jT 9 (.pointer (some ⟨gx, 4, none⟩)) rfl hHeld ?_
 try simp only [Act.put, jP]
 refine jY 10 (.int .i64 s.p.o3) rfl (Or.inl ⟨by rfl, fun w' hSw => by obtain ⟨a', v', HS⟩ := hSw; have xx := HS.X.cells; go_simp⟩) hHeld ?_
 try simp only [Act.put, jP]
 refine jR [11] ?_
 refine jC rfl (fun K hK => ?_) jN
 go_simp
 refine (HAN.out _).mono ?_
 rintro en z1 ⟨rfl, hb⟩
 obtain ⟨a1, v1, H1⟩ := hHeld
 refine hK.out _ _ ⟨a1, v1, H1.keep hb⟩ (fun hHeld => ?_)
 clear hK K H1 hb
 try simp only [Act.put, jP]
 refine jR [12] ?_
 refine jC rfl (fun K hK => ?_) jN
 go_simp
 obtain ⟨a1, v1, H1⟩ := hHeld
 refine (bF H1.M hm _).mono ?_
 rintro en z2 ⟨rfl, M2, T2⟩
 have H2 := H1.mem M2 T2
 refine hK.out _ _ ⟨_, v1, H2⟩ (fun hHeld => ?_)
 clear hK K H1 M2 T2
 obtain ⟨lj, hlj⟩ : ∃ v, v = ldV L (aS c s.p.o3) := ⟨_, rfl⟩
 simp only [← hlj]
 rw [← hlj] at hv HR
 have HV := Lib.hid hlj
 clear hlj
 try simp only [Act.put, jP]
 refine jT 13 (.pointer (some ⟨gx, 0, none⟩)) rfl hHeld ?_
 try simp only [Act.put, jP]
 refine jT 14 (.pointer (some ⟨gx, 25, none⟩)) rfl hHeld ?_
 try simp only [Act.put, jP]
 refine jR [15] ?_
 refine jC rfl (fun K hK => ?_) jN
 have x2 := H2.X.cells
 have z2f := H2.X.frozen
 have e25 : (z2.cell? ⟨gx, 25, none⟩).isSome = true := qa5z
 have H3 := H2.set (s' := { s with p := { s.p with v := lj } }) 25 (.int .u64 lj) rfl
 go_simp
 refine hK.out _ _ ⟨_, lj, H3⟩ (fun hHeld => ?_)
 clear hK K H2 x2 z2f e25
 try simp only [Act.put, jP]
 refine wpAnyH_done ah ?_ _
 clear hHeld
 obtain ⟨z3, hz3⟩ : ∃ u, u = z2.setCell ⟨gx, 25, none⟩ (.int .u64 lj) := ⟨_, rfl⟩
 rw [← hz3] at H3 ⊢
 clear hz3
 have x3 := H3.X.cells
 have l3 := H3.lt
 go_wp2_with fail
 refine (stateOf lj hv.1 hv.2 _).mono ?_
 rintro en w5 ⟨rfl, hb5⟩
 have H5 := H3.keep hb5
 have te : (lj % 16 != 1) = true := by have := HR.out; simp [this]
 clear x3 l3 H3 hb5 hv
 go_wp2
 go_ret2
 have e1 := HV.out
 subst e1
 exact ⟨rfl, H5⟩
theorem sllNone {B : Nat} {w0 w : World} {g gl cap gx : Nat} {c : Cfg} {a : Acc} {L : List Int} {s : Wk} (h : MX B w0 g gl cap gx c a L s w) (hm : L.length ≤ 1000) (hL : WR L) (hf : c.Wf) (hl : s.p.ln ≠ 30 ∧ s.p.ln ≠ 31 ∧ s.p.ln ≠ 32 ∧ s.p.ln ≠ 33 ∧ s.p.ln ≠ 34 ∧ s.p.ln ≠ 35 ∧ s.p.ln ≠ 36 ∧ s.p.ln ≠ 37 ∧ s.p.ln ≠ 39) : Calls Tryz.prog 164 #[.pointer (some ⟨g, 0, none⟩), .pointer (some ⟨gx, 0, none⟩)] w (LP B w0 g gl cap gx c ⟨a, L, s.p, 0, false⟩ s) := by
 have f0 : ∀ s : Wk, (wc s)[0]? = some (.int .i64 s.p.ln) := fun _ => rfl
 have t30 : (s.p.ln == 30) = false := bq
 have t31 : (s.p.ln == 31) = false := bq
 have t32 : (s.p.ln == 32) = false := bq
 have t33 : (s.p.ln == 33) = false := bq
 have t34 : (s.p.ln == 34) = false := bq
 have t35 : (s.p.ln == 35) = false := bq
 have t36 : (s.p.ln == 36) = false := bq
 have t37 : (s.p.ln == 37) = false := bq
 have t39 : (s.p.ln == 39) = false := bq
 have x0 := h.X.cells
 clear hl
 go_enter Tryz.func164, Tryz.ntmps164
 go_wp2
 go_ret2
 exact ⟨rfl, h⟩
theorem slabLine {B : Nat} {w0 w : World} {g gl cap gx : Nat} {c : Cfg} {a : Acc} {L : List Int} {s : Wk} (h : MX B w0 g gl cap gx c a L s w) (hm : L.length ≤ 1000) (hL : WR L) (hf : c.Wf) (he : s.p.ep < 18446744073709551616) : Calls Tryz.prog 164 #[.pointer (some ⟨g, 0, none⟩), .pointer (some ⟨gx, 0, none⟩)] w (LP B w0 g gl cap gx c (fq c a L s.p) s) := by
 unfold fq
 by_cases h30 : s.p.ln = 30
 ·rw [if_pos h30]
  unfold sl30
  split
  ·rename_i hq; exact sll30y h hm hL hf h30 hq
  ·rename_i hq; exact sll30n h hm hL hf h30 hq
 rw [if_neg h30]
 by_cases h31 : s.p.ln = 31
 ·rw [if_pos h31]
  exact sll31 h hm hL hf h31
 rw [if_neg h31]
 by_cases h32 : s.p.ln = 32
 ·rw [if_pos h32]
  exact sll32 h hm hL hf h32
 rw [if_neg h32]
 by_cases h33 : s.p.ln = 33
 ·rw [if_pos h33]
  unfold sl33
  cases hr : rdyB (ldV L (aS c s.p.j)) s.p.ep with
  | true => rw [if_pos rfl]; exact sll33r h hm hL hf he h33 hr
  | false =>
   rw [if_neg aF]
   by_cases hj : c.sl ≤ wrap64 (s.p.j + 1)
   ·rw [if_pos hj]; exact sll33g h hm hL hf he h33 hr hj
   ·rw [if_neg hj]; exact sll33n h hm hL hf he h33 hr hj
 rw [if_neg h33]
 by_cases h34 : s.p.ln = 34
 ·rw [if_pos h34]
  unfold slSwap
  cases hb : csB L (aS c s.p.j) s.p.v with
  | true => rw [if_pos rfl]; exact sll34y h hm hL hf h34 hb
  | false => rw [if_neg aF]; exact sll34n h hm hL hf h34 hb
 rw [if_neg h34]
 by_cases h35 : s.p.ln = 35
 ·rw [if_pos h35]
  unfold slTake
  by_cases hs : ldV L (aZ c s.p.b) % 16 = 2
  ·rw [if_pos hs]; exact sll35y h hm hL hf h35 hs
  ·rw [if_neg hs]; exact sll35n h hm hL hf h35 hs
 rw [if_neg h35]
 by_cases h36 : s.p.ln = 36
 ·rw [if_pos h36]
  unfold sl36
  split
  ·rename_i hq; exact sll36y h hm hL hf h36 hq
  ·rename_i hq; exact sll36n h hm hL hf h36 hq
 rw [if_neg h36]
 by_cases h37 : s.p.ln = 37
 ·rw [if_pos h37]
  unfold slSwap
  cases hb : csB L (aS c s.p.o3) s.p.v with
  | true => rw [if_pos rfl]; exact sll37y h hm hL hf h37 hb
  | false => rw [if_neg aF]; exact sll37n h hm hL hf h37 hb
 rw [if_neg h37]
 by_cases h39 : s.p.ln = 39
 ·rw [if_pos h39]
  unfold slTake
  by_cases hs : ldV L (aZ c s.p.k) % 16 = 2
  ·rw [if_pos hs]; exact sll39y h hm hL hf h39 hs
  ·rw [if_neg hs]; exact sll39n h hm hL hf h39 hs
 rw [if_neg h39]
 exact sllNone h hm hL hf ⟨h30, h31, h32, h33, h34, h35, h36, h37, h39⟩
theorem gP {B : Nat} {w : World} {g gl cap : Nat} {c : Cfg} {a : Acc} {L : List Int} (M : aC B w g c a gl cap L) (hf : c.Wf) (hm : L.length ≤ 1000) (hL : WR L) (s : Wk) (x : St) (hx : Few 1000 x) (h : aP w s x) (hp : PR x.p) :
  Calls Tryz.prog 140 #[.pointer (some ⟨g, 0, none⟩), wv s] w (iI B g gl cap c (fq c a L x.p).fin x w) :=
 slabStep M s x hx h _ fun gx s1 w1 H e => by
  have := slabLine H hm hL hf (by rw [e]; exact hp.ep.2)
  rwa [e] at this
end Go.Proofs.YtaiodbcnbcdokaaGreat.Me
