/- Part WorkStp. -/
import Derived.Test.YtaiodbcnbcdokaaGreatKFols
set_option linter.unusedVariables false
set_option linter.unusedSimpArgs false
set_option linter.unusedSectionVars false
set_option maxRecDepth 100000
set_option maxHeartbeats 16000000
namespace Go.Proofs.YtaiodbcnbcdokaaGreat.Me
open Go Go.RowKit Go.ChangeMaps Gro Own Wd Ap Go.Proofs.YtaiodbcnbcdokaaGreat.Pl Wo Mr
def bE (r : Res) (x : St) : Rs := ⟨r.a, r.L, { x with p := r.p }, r.way, r.ok⟩
theorem gs_of {B g gl cap : Nat} {c : Cfg} {r : Res} {x : St} {w w' : World} {e : Ending} (h : iI B g gl cap c r x w e w') : GS B g gl cap c (bE r x) w e w' := by
 obtain ⟨s2, h1, h2, h3, h4⟩ := h
 exact ⟨s2, h1, h2.dL, h3, h4⟩
def jJ (x : St) : St := { x with p := { x.p with j := wrap64 (x.p.j + 1) } }
def fD (c : Cfg) (x : St) : Int := if c.wd ≤ wrap64 (x.p.j + 1) then 1 else 0
def fillR (c : Cfg) (a : Acc) (L : List Int) (x : St) : Rs :=
 ⟨acc L 2 (aWrd c (wrap64 (x.p.b - 1)) x.p.j) (IntKind.u64.wrap (x.p.o2 + IntKind.u64.wrap x.p.j)) 0, stL L (aWrd c (wrap64 (x.p.b - 1)) x.p.j) (IntKind.u64.wrap (x.p.o2 + IntKind.u64.wrap x.p.j)), jJ x, fD c x, true⟩
theorem fF {P : Nat → Prop} {w u : World} {k : IntKind} {y : Sl} {l : List Int} {a b : Nat} (h : RdP P w k y l) (t : Touch a b w u) (h1 : ∀ d, P d → d ≠ a) (h2 : ∀ d, P d → d ≠ b) : RdP P u k y l :=
 ⟨readsTouchT h.1 t (h.2.imp_right fun q d hd => h1 _ (q d hd)) (h.2.imp_right fun q d hd => h2 _ (q d hd)), h.2⟩
def FW3 (P : Nat → Prop) (w : World) (y : St) (way : Int) (e : Ending) (w' : World) : Prop := ∃ s', e = .returned (.tuple #[wv s', .int .i64 way, .bool true]) ∧ aM P w' s' y ∧ Below w.heap.size w w'
theorem fAlone {P : Nat → Prop} {B : Nat} {w : World} {g gl cap : Nat} {c : Cfg} {a : Acc} {L : List Int} (M : aC B w g c a gl cap L) (s : Wk) (x : St) (hP : ∀ b, w.heap.size ≤ b → P b) (h : aP w s x) {r : Rs} {fi a9 : Nat} (hfi : ∀ args w, (callFunc fi args).run Tryz.prog w = .ok (.enter fi args) w) (K : Bk w a9 #[fnV fi] 193)
  (HI : RowKit.Hid (∀ w1, aC B w1 g c a gl cap L → aP w1 s x → Calls Tryz.prog fi #[.pointer (some ⟨g, 0, none⟩), wv s] w1 (GS B g gl cap c r w1))) (wk : Int) :
  Calls Tryz.prog 163 #[.pointer (some ⟨g, 0, none⟩), .int .i64 wk, wv s, .pointer (some ⟨a9, 0, none⟩)] w (GSP P B g gl cap c r w) := by
 have T0 := Two.start w s
 have mlt := M.lt
 have lk := K.lt
 have M0 := M.keep T0.below
 have h0 := h.keep T0.below
 have K0 := K.keep T0.below
 have ll := T0.lt
 obtain ⟨v0, hv0⟩ : ∃ u, u = (w.alloc (.cells (wc s) 46)).alloc (.cells (wc wz) 46) := ⟨_, rfl⟩
 rw [← hv0] at T0 M0 h0 K0 ll
 have k0 : v0.cell? ⟨a9, 0, none⟩ = some (fnV fi) := by rw [K0.cells]; rfl
 have lk0 := K0.lt
 have HC := Lib.hid (HI.out v0 M0 h0)
 clear HI
 go_enter Tryz.func163, Tryz.ntmps163
 go_wp2_with (first | ((with_reducible refine au rfl rfl ?_); rw [← hv0]; clear hv0) | (refine wpList_load_row rfl 46 _ rfl (w.heap.size) rfl _ (wc s) (0, 0) _ bT Tryz.underlying46 rfl ah ?_))
 refine HC.out.mono ?_
 rintro e w5 ⟨s5, rfl, A5, M5, T5⟩
 have Z5 := T5.bk T0.Z aj aj
 have s5' := T5.size
 obtain ⟨ra, rL, rx, rw', rok⟩ := r
 simp only at *
 go_wp2_with (first | (refine wpList_store_row rfl 46 _ _ rfl (w.heap.size + 1) (wc s5) rfl rfl _ _ qa5u ah ah ah ?_))
 have ZF := Z5.setRow (wc s5)
 refine bodyPost_ret (v := .tuple #[wv s5, .int .i64 rw', .bool rok]) ?_ rfl ⟨_, rfl, aM.of (A5.setRow (g := w.heap.size + 1) aj (wc s5)) (fun b _ q => hP b aj), M5.apart (g' := w.heap.size + 1) (gl' := w.heap.size + 1) ((Touch.refl _ _ _).setRow _) aj aj aj aj, touchW T0.below T5 aj _⟩
 exact Rw.results_cell_slot2 (p := 7) (q := 8) (r := 9) (ty := 46) Tryz.results163 _ _ (w.heap.size + 1) 46 _ (0, 0) _ rfl ZF Tryz.underlying46 rfl ah
theorem fNext {P : Nat → Prop} {w : World} {s : Wk} {x : St} (hP : ∀ b, w.heap.size ≤ b → P b) (A : aM P w s x) {B g gl cap : Nat} {c : Cfg} {a : Acc} {L : List Int} (M : aC B w g c a gl cap L) :
  Calls Tryz.prog 179 #[.pointer (some ⟨g, 0, none⟩), wv s] w (FW3 P w (jJ x) (fD c x)) := by
 unfold jJ fD
 have ej : s.p.j = x.p.j := by rw [A.p]
 rw [← ej]
 clear ej
 obtain ⟨j1, hj⟩ : ∃ j, j = wrap64 (s.p.j + 1) := ⟨_, rfl⟩
 have hj' : IntKind.i64.wrap (s.p.j + 1) = j1 := (IntWalk.i64_left _).trans hj.symm
 rw [← hj]
 have mlt := M.lt
 clear hj
 have f28 : ∀ s : Wk, (wc s)[28]? = some (.int .i64 s.p.j) := fun _ => rfl
 have T0 := Two.start w s
 have AQ := (A.mono (Q := fun b => P b ∧ b ≠ w.heap.size ∧ b ≠ w.heap.size + 1) (fun b hb q => ⟨q, by omega, by omega⟩)).keep T0.below
 obtain ⟨v0, hv0⟩ : ∃ u, u = (w.alloc (.cells (wc s) 46)).alloc (.cells (wc wz) 46) := ⟨_, rfl⟩
 rw [← hv0] at T0 AQ
 have x0 := T0.X.cells
 have z0 := T0.X.frozen
 have gK := qa6d
 simp only [Option.isSome_some] at gK
 have T1 := T0.bZ 28 (.int .i64 j1) ({ s with p := { s.p with j := j1 } } : Wk) rfl
 have gu := AQ.cell (g := w.heap.size) (fun q => q.2.1 rfl) 28 (.int .i64 j1)
 have M1 := M.keep (T1.below)
 have lt9 := T1.lt
 have mlt1 := M1.lt
 by_cases hw : c.wd ≤ j1
 ·rw [if_pos hw]
  have tw : decide (c.wd ≤ j1) = true := qa5q
  clear hw
  go_enter Tryz.func179, Tryz.ntmps179
  go_wp2_with (first | ((with_reducible refine au rfl rfl ?_); rw [← hv0]; clear hv0))
  obtain ⟨v1, hv1⟩ : ∃ u, u = v0.setCell ⟨w.heap.size, 28, none⟩ (.int .i64 j1) := ⟨_, rfl⟩
  rw [← hv1] at T1 M1 lt9 gu ⊢
  clear hv1
  have hS0 : Below v1.heap.size v1 v1.drew := Below.drew (Below.refl _ _)
  refine wp_region_held_drew (S := fun w' => Below v1.heap.size v1 w') ah hS0 (fun hHeld => ?_)
  clear hS0
  generalize v1.drew = w6 at *
  refine jT 0 (.pointer (some ⟨w.heap.size, 28, none⟩)) rfl hHeld ?_
  try simp only [Act.put, jP]
  refine jY 1 (.int .i64 j1) rfl (Or.inl ⟨by rfl, fun w' hSw => by have xx := (T1.keep hSw).X.cells; go_simp⟩) hHeld ?_
  try simp only [Act.put, jP]
  refine jT 2 (.pointer (some ⟨g, 0, none⟩)) rfl hHeld ?_
  try simp only [Act.put, jP]
  refine jT 3 (.pointer (some ⟨g, 0, none⟩)) rfl hHeld ?_
  try simp only [Act.put, jP]
  refine jT 4 (.pointer (some ⟨g, 0, none⟩)) rfl hHeld ?_
  try simp only [Act.put, jP]
  refine jT 5 (.pointer (some ⟨g, 0, none⟩)) rfl hHeld ?_
  try simp only [Act.put, jP]
  refine jT 6 (.pointer (some ⟨g, 3, none⟩)) rfl hHeld ?_
  try simp only [Act.put, jP]
  refine jY 7 (.int .i64 c.wd) rfl (Or.inl ⟨by rfl, fun w' hSw => by have xx := (M1.keep hSw).B.cells; go_simp⟩) hHeld ?_
  try simp only [Act.put, jP]
  refine jT 8 (.bool true) rfl hHeld ?_
  try simp only [Act.put, jP]
  refine wpAnyH_done ah ?_ _
  have hb6 := hHeld
  clear hHeld
  have T6 := T1.keep hb6
  have A6 := (gu.pl (p := { s.p with j := j1 }) (p' := { x.p with j := j1 }) qa67).keep hb6
  clear z0 x0 T1 T0
  go_wp2_with (first | (refine wpList_load_row rfl 46 _ rfl (w.heap.size) rfl _ (wc ({ s with p := { s.p with j := j1 } } : Wk)) (0, 0) _ qa6h Tryz.underlying46 rfl ah ?_) | (refine wpList_store_row rfl 46 _ _ rfl (w.heap.size + 1) (wc ({ s with p := { s.p with j := j1 } } : Wk)) rfl rfl _ _ (by exact T6.Z) ah ah ah ?_))
  have ZF := T6.bN ({ s with p := { s.p with j := j1 } } : Wk)
  refine bodyPost_ret (v := .tuple #[wv ({ s with p := { s.p with j := j1 } } : Wk), .int .i64 1, .bool true]) ?_ rfl ⟨_, rfl, ((A6.row (g := w.heap.size + 1) (fun q => q.2.2 rfl) _).mono (fun b _ q => q.1)), ZF.below⟩
  exact qa3t
 ·rw [if_neg hw]
  have tw : decide (c.wd ≤ j1) = false := bq
  clear hw
  go_enter Tryz.func179, Tryz.ntmps179
  go_wp2_with (first | ((with_reducible refine au rfl rfl ?_); rw [← hv0]; clear hv0))
  obtain ⟨v1, hv1⟩ : ∃ u, u = v0.setCell ⟨w.heap.size, 28, none⟩ (.int .i64 j1) := ⟨_, rfl⟩
  rw [← hv1] at T1 M1 lt9 gu ⊢
  clear hv1
  have hS0 : Below v1.heap.size v1 v1.drew := Below.drew (Below.refl _ _)
  refine wp_region_held_drew (S := fun w' => Below v1.heap.size v1 w') ah hS0 (fun hHeld => ?_)
  clear hS0
  generalize v1.drew = w6 at *
  refine jT 0 (.pointer (some ⟨w.heap.size, 28, none⟩)) rfl hHeld ?_
  try simp only [Act.put, jP]
  refine jY 1 (.int .i64 j1) rfl (Or.inl ⟨by rfl, fun w' hSw => by have xx := (T1.keep hSw).X.cells; go_simp⟩) hHeld ?_
  try simp only [Act.put, jP]
  refine jT 2 (.pointer (some ⟨g, 0, none⟩)) rfl hHeld ?_
  try simp only [Act.put, jP]
  refine jT 3 (.pointer (some ⟨g, 0, none⟩)) rfl hHeld ?_
  try simp only [Act.put, jP]
  refine jT 4 (.pointer (some ⟨g, 0, none⟩)) rfl hHeld ?_
  try simp only [Act.put, jP]
  refine jT 5 (.pointer (some ⟨g, 0, none⟩)) rfl hHeld ?_
  try simp only [Act.put, jP]
  refine jT 6 (.pointer (some ⟨g, 3, none⟩)) rfl hHeld ?_
  try simp only [Act.put, jP]
  refine jY 7 (.int .i64 c.wd) rfl (Or.inl ⟨by rfl, fun w' hSw => by have xx := (M1.keep hSw).B.cells; go_simp⟩) hHeld ?_
  try simp only [Act.put, jP]
  refine jT 8 (.bool false) rfl hHeld ?_
  try simp only [Act.put, jP]
  refine wpAnyH_done ah ?_ _
  have hb6 := hHeld
  clear hHeld
  have T6 := T1.keep hb6
  have A6 := (gu.pl (p := { s.p with j := j1 }) (p' := { x.p with j := j1 }) qa67).keep hb6
  clear z0 x0 T1 T0
  go_wp2_with (first | (refine wpList_load_row rfl 46 _ rfl (w.heap.size) rfl _ (wc ({ s with p := { s.p with j := j1 } } : Wk)) (0, 0) _ qa6h Tryz.underlying46 rfl ah ?_) | (refine wpList_store_row rfl 46 _ _ rfl (w.heap.size + 1) (wc ({ s with p := { s.p with j := j1 } } : Wk)) rfl rfl _ _ (by exact T6.Z) ah ah ah ?_))
  have ZF := T6.bN ({ s with p := { s.p with j := j1 } } : Wk)
  refine bodyPost_ret (v := .tuple #[wv ({ s with p := { s.p with j := j1 } } : Wk), .int .i64 0, .bool true]) ?_ rfl ⟨_, rfl, ((A6.row (g := w.heap.size + 1) (fun q => q.2.2 rfl) _).mono (fun b _ q => q.1)), ZF.below⟩
  exact qa3t
theorem fFill {P : Nat → Prop} {B : Nat} {w : World} {g gl cap : Nat} {c : Cfg} {a : Acc} {L : List Int} (M : aC B w g c a gl cap L) (hf : c.Wf) (hm : L.length ≤ 1000) (s : Wk) (x : St) (hP : ∀ b, w.heap.size ≤ b → P b) (hG : ∀ b, P b → b ≠ g ∧ b ≠ gl) (A : aM P w s x) (wk : Int) :
  Calls Tryz.prog 154 #[.pointer (some ⟨g, 0, none⟩), .int .i64 wk, wv s] w (GSP P B g gl cap c (fillR c a L x) w) := by
 have mlt := M.lt
 have f28 : ∀ s : Wk, (wc s)[28]? = some (.int .i64 s.p.j) := fun _ => rfl
 have f18 : ∀ s : Wk, (wc s)[18]? = some (.int .i64 s.p.b) := fun _ => rfl
 have f3 : ∀ s : Wk, (wc s)[3]? = some (.int .u64 s.p.o2) := fun _ => rfl
 have T0 := Two.start w s
 have AQ := (A.mono (Q := fun b => P b ∧ b ≠ w.heap.size ∧ b ≠ w.heap.size + 1) (fun b hb q => ⟨q, by omega, by omega⟩)).keep T0.below
 obtain ⟨v0, hv0⟩ : ∃ u, u = (w.alloc (.cells (wc s) 46)).alloc (.cells (wc wz) 46) := ⟨_, rfl⟩
 rw [← hv0] at T0 AQ
 have x0 := T0.X.cells
 have z0 := T0.X.frozen
 have M0 := M.keep T0.below
 have lt0 := T0.lt
 have ll0 := T0.below.size
 have ep := A.p
 obtain ⟨b1, hb1⟩ : ∃ k, k = wrap64 (x.p.b - 1) := ⟨_, rfl⟩
 have hb1' : IntKind.i64.wrap (x.p.b - 1) = b1 := (IntWalk.i64_left _).trans hb1.symm
 obtain ⟨vj, hvj⟩ : ∃ v, v = IntKind.u64.wrap x.p.j := ⟨_, rfl⟩
 obtain ⟨vv, hvv⟩ : ∃ v, v = IntKind.u64.wrap (x.p.o2 + vj) := ⟨_, rfl⟩
 obtain ⟨ka, hka⟩ : ∃ k, k = aWrd c b1 x.p.j := ⟨_, rfl⟩
 have q28 : (wc s)[28]? = some (.int .i64 x.p.j) := by rw [f28, ep]
 have q18 : (wc s)[18]? = some (.int .i64 x.p.b) := by rw [f18, ep]
 have q3 : (wc s)[3]? = some (.int .u64 x.p.o2) := by rw [f3, ep]
 have HWD := Lib.hid (fun w => hka ▸ word c hf b1 x.p.j w)
 have hR : fillR c a L x = ⟨acc L 2 ka vv 0, stL L ka vv, jJ x, fD c x, true⟩ := by unfold fillR; rw [← hb1, ← hvj, ← hvv, ← hka]
 rw [hR]
 have HVJ := hvj.symm
 have HVV := hvv.symm
 obtain ⟨jj, hjj⟩ : ∃ j, j = x.p.j := ⟨_, rfl⟩
 obtain ⟨oo, hoo⟩ : ∃ j, j = x.p.o2 := ⟨_, rfl⟩
 obtain ⟨bb, hbb⟩ : ∃ j, j = x.p.b := ⟨_, rfl⟩
 rw [← hjj] at q28 HWD HVJ
 rw [← hoo] at q3 HVV
 rw [← hbb] at q18 hb1'
 clear hb1 hvj hvv hka ep f28 f18 f3 hR hjj hoo hbb
 go_enter Tryz.func154, Tryz.ntmps154
 go_wp2_with (first | ((with_reducible refine au rfl rfl ?_); rw [← hv0]; clear hv0))
 have hz0 : Below v0.heap.size v0 v0.drew := Below.drew (Below.refl _ _)
 refine wp_region_held_drew (S := fun w' => Bk w' w.heap.size (wc s) 46 ∧ ∃ a' y', Bk w' g (mc c a' y') 99) ah ⟨T0.X.keep hz0, _, _, (M0.keep hz0).B⟩ (fun hHeld => ?_)
 generalize v0.drew = z0' at *
 refine jT 0 (.pointer (some ⟨g, 0, none⟩)) rfl hHeld ?_
 try simp only [Act.put, jP]
 refine jT 1 (.pointer (some ⟨g, 0, none⟩)) rfl hHeld ?_
 try simp only [Act.put, jP]
 refine jT 2 (.pointer (some ⟨g, 0, none⟩)) rfl hHeld ?_
 try simp only [Act.put, jP]
 refine jT 3 (.pointer (some ⟨g, 0, none⟩)) rfl hHeld ?_
 try simp only [Act.put, jP]
 refine jY 4 (cv c) rfl (Or.inl ⟨by rfl, fun w' hSw => by obtain ⟨_, _, _, hBB⟩ := hSw; have xx := hBB.cells; go_simp⟩) hHeld ?_
 try simp only [Act.put, jP]
 refine jT 5 (.pointer (some ⟨w.heap.size, 18, none⟩)) rfl hHeld ?_
 try simp only [Act.put, jP]
 refine jY 6 (.int .i64 bb) rfl (Or.inl ⟨by rfl, fun w' hSw => by have xx := hSw.1.cells; go_simp⟩) hHeld ?_
 try simp only [Act.put, jP]
 refine jT 7 (.int .i64 b1) rfl hHeld ?_
 try simp only [Act.put, jP]
 refine jT 8 (.pointer (some ⟨w.heap.size, 28, none⟩)) rfl hHeld ?_
 try simp only [Act.put, jP]
 refine jY 9 (.int .i64 jj) rfl (Or.inl ⟨by rfl, fun w' hSw => by have xx := hSw.1.cells; go_simp⟩) hHeld ?_
 try simp only [Act.put, jP]
 refine jT 11 (.pointer (some ⟨w.heap.size, 1, none⟩)) rfl hHeld ?_
 try simp only [Act.put, jP]
 refine jT 12 (.pointer (some ⟨w.heap.size, 3, none⟩)) rfl hHeld ?_
 try simp only [Act.put, jP]
 refine jY 13 (.int .u64 oo) rfl (Or.inl ⟨by rfl, fun w' hSw => by have xx := hSw.1.cells; go_simp⟩) hHeld ?_
 try simp only [Act.put, jP]
 refine jT 14 (.pointer (some ⟨w.heap.size, 28, none⟩)) rfl hHeld ?_
 try simp only [Act.put, jP]
 refine jY 15 (.int .i64 jj) rfl (Or.inl ⟨by rfl, fun w' hSw => by have xx := hSw.1.cells; go_simp⟩) hHeld ?_
 try simp only [Act.put, jP]
 refine jT 16 (.int .u64 vj) rfl hHeld ?_
 try simp only [Act.put, jP]
 refine jT 17 (.int .u64 vv) rfl hHeld ?_
 try simp only [Act.put, jP]
 refine jR [10] ?_
 refine jC rfl (fun K hK => ?_) jN
 go_simp
 refine (HWD.out _).mono ?_
 rintro e z1 ⟨rfl, hb⟩
 have hz1 := hz0.trans (hb.mono hz0.size)
 refine hK.out _ _ ⟨T0.X.keep hz1, _, _, (M0.keep hz1).B⟩ (fun hHeld => ?_)
 clear hK K hb
 try simp only [Act.put, jP]
 refine jR [18] ?_
 refine jC rfl (fun K hK => ?_) jN
 go_simp
 refine (iA (M0.keep hz1) hm ka vv).mono ?_
 rintro e z2 ⟨rfl, M2, T2⟩
 have X2 := T2.bk (T0.X.keep hz1) aj aj
 have Z2 := T2.bk (T0.Z.keep hz1) aj aj
 have AH := AQ.keep hz1
 have A2 : aM (fun b => P b ∧ b ≠ w.heap.size ∧ b ≠ w.heap.size + 1) z2 s x := ⟨AH.p, fF AH.rk T2 (fun b q => (hG b q.1).1) (fun b q => (hG b q.1).2), fF AH.l0 T2 (fun b q => (hG b q.1).1) (fun b q => (hG b q.1).2), fF AH.l1 T2 (fun b q => (hG b q.1).1) (fun b q => (hG b q.1).2), fF AH.l2 T2 (fun b q => (hG b q.1).1) (fun b q => (hG b q.1).2), fF AH.hl T2 (fun b q => (hG b q.1).1) (fun b q => (hG b q.1).2), fF AH.rd T2 (fun b q => (hG b q.1).1) (fun b q => (hG b q.1).2)⟩
 have TT2 : Touch g gl w z2 := (Touch.of_below (T0.below.trans (hz1.mono ll0))).trans T2
 have sz2 := TT2.size
 have sz3 := T2.size
 have sz4 := hz1.size
 have HP' : ∀ b, z2.heap.size ≤ b → (P b ∧ b ≠ w.heap.size ∧ b ≠ w.heap.size + 1) := fun b hb => ⟨hP b aj, by omega, by omega⟩
 have HNX := Lib.hid (fNext HP' A2 M2)
 refine hK.out _ _ ⟨X2, _, _, M2.B⟩ (fun hHeld => ?_)
 clear hK K
 try simp only [Act.put, jP]
 refine wpAnyH_done ah ?_ _
 clear hHeld AH
 go_wp2_with (first | (refine wpList_load_row rfl 46 _ rfl (w.heap.size) rfl _ (wc s) (0, 0) _ (by exact X2) Tryz.underlying46 rfl ah ?_))
 refine HNX.out.mono ?_
 rintro e w5 ⟨s5, rfl, A5, hb5⟩
 have Z5 := Z2.keep hb5
 have M5 := M2.keep hb5
 have TT5 := TT2.trans (Touch.of_below hb5)
 go_wp2_with (first | (refine wpList_store_row rfl 46 _ _ rfl (w.heap.size + 1) (wc s5) rfl rfl _ _ qa5u ah ah ah ?_))
 have ZF := Z5.setRow (wc s5)
 refine bodyPost_ret (v := .tuple #[wv s5, .int .i64 (fD c x), .bool true]) ?_ rfl ⟨_, rfl, (A5.row (g := w.heap.size + 1) (fun q => q.2.2 rfl) _).mono (fun b _ q => q.1), M5.apart (g' := w.heap.size + 1) (gl' := w.heap.size + 1) ((Touch.refl _ _ _).setRow _) aj aj aj aj, jH TT5 aj _⟩
 exact Rw.results_cell_slot2 (p := 6) (q := 7) (r := 8) (ty := 46) Tryz.results154 _ _ (w.heap.size + 1) 46 _ (0, 0) _ rfl ZF Tryz.underlying46 rfl ah
end Go.Proofs.YtaiodbcnbcdokaaGreat.Me
