/- Part EpochLines. -/
import Derived.Test.YtaiodbcnbcdokaaGreatKStacks
import Derived.Test.YtaiodbcnbcdokaaGreatKStepEpoch
set_option linter.unusedVariables false
set_option linter.unusedSimpArgs false
set_option linter.unusedSectionVars false
set_option maxRecDepth 100000
set_option maxHeartbeats 16000000
section
namespace Go.Proofs.YtaiodbcnbcdokaaGreat.Me
open Go Go.RowKit Gro Own Wd Ap Go.Proofs.YtaiodbcnbcdokaaGreat.Pl Wo
def iq (x v : Int) : Bool := decide (x % 2 = 1) && decide (x / 2 ≠ v)
def ep1 (L : List Int) (p : Pl) : Res := ⟨acc L 1 0 0 0, L, { p with ep := ldV L 0, ln := 2 }, 0, true⟩
def ep2 (c : Cfg) (L : List Int) (p : Pl) (k : Int) : Res := ⟨acc L 2 (fB c k) (Pk.an p.ep true) 0, stL L (fB c k) (Pk.an p.ep true), { p with ln := 3 }, 0, true⟩
def ep3 (L : List Int) (p : Pl) : Res := if ldV L 0 = p.ep then ⟨acc L 1 0 0 0, L, p, 1, true⟩ else ⟨acc L 1 0 0 0, L, { p with ep := ldV L 0, ln := 2 }, 0, true⟩
def ep90 (c : Cfg) (L : List Int) (p : Pl) (k : Int) : Res := ⟨acc L 2 (fB c k) (Pk.an p.ep false) 0, stL L (fB c k) (Pk.an p.ep false), p, 1, true⟩
def ep70 (L : List Int) (p : Pl) : Res := ⟨acc L 1 0 0 0, L, { p with v := ldV L 0, j := 0, ln := 71 }, 0, true⟩
def ep71 (c : Cfg) (L : List Int) (p : Pl) : Res :=
 if iq (ldV L (fB c p.j)) p.v = true then ⟨acc L 1 (fB c p.j) 0 0, L, p, 2, true⟩
 else ⟨acc L 1 (fB c p.j) 0 0, L, { p with j := wrap64 (p.j + 1), ln := if wrap64 (c.ww - 1) ≤ p.j then 72 else 71 }, 0, true⟩
def ep72 (L : List Int) (p : Pl) : Res := ⟨acc L 3 0 p.v (IntKind.u64.wrap (p.v + 1)), csL L 0 p.v (IntKind.u64.wrap (p.v + 1)), p, if csB L 0 p.v = true then 1 else 2, true⟩
def bX (c : Cfg) (a : Acc) (L : List Int) (p : Pl) (k : Int) : Res :=
 if p.ln = 1 then ep1 L p else if p.ln = 2 then ep2 c L p k else if p.ln = 3 then ep3 L p else if p.ln = 90 then ep90 c L p k
 else if p.ln = 70 then ep70 L p else if p.ln = 71 then ep71 c L p else if p.ln = 72 then ep72 L p else ⟨a, L, p, 0, false⟩
end Go.Proofs.YtaiodbcnbcdokaaGreat.Me
end
section
namespace Go.Proofs.YtaiodbcnbcdokaaGreat.Me
open Go Go.RowKit Gro Own Wd Ap Go.Proofs.YtaiodbcnbcdokaaGreat.Pl Wo
theorem epl1 {B : Nat} {w0 w : World} {g gl cap gx : Nat} {c : Cfg} {a : Acc} {L : List Int} {s : Wk} (h : MX B w0 g gl cap gx c a L s w) (hm : L.length ≤ 1000) (hL : WR L) (hf : c.Wf) (wk : Int) (hl : s.p.ln = 1) : Calls Tryz.prog 159 #[.pointer (some ⟨g, 0, none⟩), .int .i64 wk, .pointer (some ⟨gx, 0, none⟩)] w (LP B w0 g gl cap gx c ⟨acc L 1 0 0 0, L, { s.p with ep := ldV L 0, ln := 2 }, 0, true⟩ s) := by
 have f0 : ∀ s : Wk, (wc s)[0]? = some (.int .i64 s.p.ln) := fun _ => rfl
 have f9 : ∀ s : Wk, (wc s)[9]? = some (.int .u64 s.p.ep) := fun _ => rfl
 have t1 : (s.p.ln == 1) = true := jB hl
 have x0 := h.X.cells
 clear hl
 go_enter Tryz.func159, Tryz.ntmps159
 go_wp2_with fail
 refine (bF h.M hm 0).mono ?_
 rintro en w1 ⟨rfl, M1, T1⟩
 have H1 := h.mem M1 T1
 obtain ⟨v0, hv0⟩ : ∃ v, v = ldV L 0 := ⟨_, rfl⟩
 simp only [← hv0]
 have HV := Lib.hid hv0
 clear hv0 x0 M1 T1
 have H2 := H1.set (s' := { s with p := { s.p with ep := v0 } }) 9 (.int .u64 v0) rfl
 have xw1 := H1.X.cells
 have zw1 := H1.X.frozen
 have ew1_9 : (w1.cell? ⟨gx, 9, none⟩).isSome = true := by rw [xw1, f9]; rfl
 have H3 := H2.set (s' := { s with p := { s.p with ep := v0, ln := 2 } }) 0 (.int .i64 2) rfl
 have y2 : ((w1.setCell ⟨gx, 9, none⟩ (.int .u64 v0)).cell? ⟨gx, 0, none⟩).isSome = true := qa5y
 go_wp2
 go_ret2
 exact qai
theorem epl2 {B : Nat} {w0 w : World} {g gl cap gx : Nat} {c : Cfg} {a : Acc} {L : List Int} {s : Wk} (h : MX B w0 g gl cap gx c a L s w) (hm : L.length ≤ 1000) (hL : WR L) (hf : c.Wf) (wk : Int) (hl : s.p.ln = 2) : Calls Tryz.prog 159 #[.pointer (some ⟨g, 0, none⟩), .int .i64 wk, .pointer (some ⟨gx, 0, none⟩)] w (LP B w0 g gl cap gx c ⟨acc L 2 (fB c wk) (Pk.an s.p.ep true) 0, stL L (fB c wk) (Pk.an s.p.ep true), { s.p with ln := 3 }, 0, true⟩ s) := by
 have HAN := Lib.hid (fun w => Pl.announce c hf wk w)
 have f0 : ∀ s : Wk, (wc s)[0]? = some (.int .i64 s.p.ln) := fun _ => rfl
 have f9 : ∀ s : Wk, (wc s)[9]? = some (.int .u64 s.p.ep) := fun _ => rfl
 have t1 : (s.p.ln == 1) = false := jB hl
 have t2 : (s.p.ln == 2) = true := jB hl
 have x0 := h.X.cells
 clear hl
 go_enter Tryz.func159, Tryz.ntmps159
 have m0 := h.M.B.cells
 have lx := h.lt
 have lg := h.M.lt.1
 go_wp2
 refine aH 12 ah ah ?_
 simp only [List.take_succ_cons, List.take_zero, List.drop_succ_cons, List.drop_zero]
 have hg := @cK
 repeat (go_big_quiet_step (first | exact grown_of (HAN.out _) | exact bU (Pk.announce _ _ _)))
 refine wpQuiet_nil ?_
 rintro w1 ⟨⟨_, hb1⟩, rfl⟩
 clear hg
 have H1 := h.keep hb1
 clear x0 m0 lx lg hb1
 go_wp2_with fail
 refine (iA H1.M hm _ _).mono ?_
 rintro en w2 ⟨rfl, M2, T2⟩
 have H2 := H1.mem M2 T2
 clear H1 M2 T2
 have H3 := H2.set (s' := { s with p := { s.p with ln := 3 } }) 0 (.int .i64 3) rfl
 have xw2 := H2.X.cells
 have zw2 := H2.X.frozen
 have ew2_0 : (w2.cell? ⟨gx, 0, none⟩).isSome = true := qa5g
 go_wp2
 go_ret2
 exact ⟨rfl, H3⟩
theorem epl90 {B : Nat} {w0 w : World} {g gl cap gx : Nat} {c : Cfg} {a : Acc} {L : List Int} {s : Wk} (h : MX B w0 g gl cap gx c a L s w) (hm : L.length ≤ 1000) (hL : WR L) (hf : c.Wf) (wk : Int) (hl : s.p.ln = 90) : Calls Tryz.prog 159 #[.pointer (some ⟨g, 0, none⟩), .int .i64 wk, .pointer (some ⟨gx, 0, none⟩)] w (LP B w0 g gl cap gx c ⟨acc L 2 (fB c wk) (Pk.an s.p.ep false) 0, stL L (fB c wk) (Pk.an s.p.ep false), s.p, 1, true⟩ s) := by
 have HAN := Lib.hid (fun w => Pl.announce c hf wk w)
 have f0 : ∀ s : Wk, (wc s)[0]? = some (.int .i64 s.p.ln) := fun _ => rfl
 have f9 : ∀ s : Wk, (wc s)[9]? = some (.int .u64 s.p.ep) := fun _ => rfl
 have t1 : (s.p.ln == 1) = false := jB hl
 have t2 : (s.p.ln == 2) = false := jB hl
 have t3 : (s.p.ln == 3) = false := jB hl
 have t90 : (s.p.ln == 90) = true := jB hl
 have x0 := h.X.cells
 clear hl
 go_enter Tryz.func159, Tryz.ntmps159
 have m0 := h.M.B.cells
 have lx := h.lt
 have lg := h.M.lt.1
 go_wp2
 refine aH 12 ah ah ?_
 simp only [List.take_succ_cons, List.take_zero, List.drop_succ_cons, List.drop_zero]
 have hg := @cK
 repeat (go_big_quiet_step (first | exact grown_of (HAN.out _) | exact bU (Pk.announce _ _ _)))
 refine wpQuiet_nil ?_
 rintro w1 ⟨⟨_, hb1⟩, rfl⟩
 clear hg
 have H1 := h.keep hb1
 clear x0 m0 lx lg hb1
 go_wp2_with fail
 refine (iA H1.M hm _ _).mono ?_
 rintro en w2 ⟨rfl, M2, T2⟩
 have H2 := H1.mem M2 T2
 clear H1 M2 T2
 go_wp2
 go_ret2
 exact ⟨rfl, H2⟩
theorem epConf1 {B : Nat} {w0 w : World} {g gl cap gx : Nat} {c : Cfg} {a : Acc} {L : List Int} {s : Wk} (h : MX B w0 g gl cap gx c a L s w) (hm : L.length ≤ 1000) (hL : WR L) (hf : c.Wf) (he : ldV L 0 = s.p.ep) : Calls Tryz.prog 183 #[.pointer (some ⟨g, 0, none⟩), .pointer (some ⟨gx, 0, none⟩)] w fun e w' => e = .returned (.int .i64 1) ∧ MX B w0 g gl cap gx c (acc L 1 0 0 0) L s w' := by
 have f9 : ∀ s : Wk, (wc s)[9]? = some (.int .u64 s.p.ep) := fun _ => rfl
 have f0 : ∀ s : Wk, (wc s)[0]? = some (.int .i64 s.p.ln) := fun _ => rfl
 have HE := Lib.hid he
 clear he
 have x0 := h.X.cells
 go_enter Tryz.func183, Tryz.ntmps183
 go_wp2_with fail
 refine (bF h.M hm 0).mono ?_
 rintro en w1 ⟨rfl, M1, T1⟩
 have H1 := h.mem M1 T1
 obtain ⟨v0, hv0⟩ : ∃ v, v = ldV L 0 := ⟨_, rfl⟩
 simp only [← hv0]
 rw [← hv0] at HE
 have HV := Lib.hid hv0
 clear hv0 x0 M1 T1
 have te : (v0 == s.p.ep) = true := qa5x
 have xw1 := H1.X.cells
 go_wp2
 go_ret
 have e1 := HV.out
 subst e1
 exact ⟨rfl, H1⟩
theorem epl3y {B : Nat} {w0 w : World} {g gl cap gx : Nat} {c : Cfg} {a : Acc} {L : List Int} {s : Wk} (h : MX B w0 g gl cap gx c a L s w) (hm : L.length ≤ 1000) (hL : WR L) (hf : c.Wf) (wk : Int) (hl : s.p.ln = 3) (he : ldV L 0 = s.p.ep) : Calls Tryz.prog 159 #[.pointer (some ⟨g, 0, none⟩), .int .i64 wk, .pointer (some ⟨gx, 0, none⟩)] w (LP B w0 g gl cap gx c ⟨acc L 1 0 0 0, L, s.p, 1, true⟩ s) := by
 have HC := Lib.hid (epConf1 h hm hL hf he)
 exact qas
theorem epConf0 {B : Nat} {w0 w : World} {g gl cap gx : Nat} {c : Cfg} {a : Acc} {L : List Int} {s : Wk} (h : MX B w0 g gl cap gx c a L s w) (hm : L.length ≤ 1000) (hL : WR L) (hf : c.Wf) (he : ldV L 0 ≠ s.p.ep) : Calls Tryz.prog 183 #[.pointer (some ⟨g, 0, none⟩), .pointer (some ⟨gx, 0, none⟩)] w fun e w' => e = .returned (.int .i64 0) ∧ MX B w0 g gl cap gx c (acc L 1 0 0 0) L { s with p := { s.p with ep := ldV L 0, ln := 2 } } w' := by
 have f9 : ∀ s : Wk, (wc s)[9]? = some (.int .u64 s.p.ep) := fun _ => rfl
 have f0 : ∀ s : Wk, (wc s)[0]? = some (.int .i64 s.p.ln) := fun _ => rfl
 have HE := Lib.hid he
 clear he
 have x0 := h.X.cells
 go_enter Tryz.func183, Tryz.ntmps183
 go_wp2_with fail
 refine (bF h.M hm 0).mono ?_
 rintro en w1 ⟨rfl, M1, T1⟩
 have H1 := h.mem M1 T1
 obtain ⟨v0, hv0⟩ : ∃ v, v = ldV L 0 := ⟨_, rfl⟩
 simp only [← hv0]
 rw [← hv0] at HE
 have HV := Lib.hid hv0
 clear hv0 x0 M1 T1
 have te : (v0 == s.p.ep) = false := qa5x
 have H2 := H1.set (s' := { s with p := { s.p with ep := v0 } }) 9 (.int .u64 v0) rfl
 have xw1 := H1.X.cells
 have zw1 := H1.X.frozen
 have ew1_9 : (w1.cell? ⟨gx, 9, none⟩).isSome = true := by rw [xw1, f9]; rfl
 have H3 := H2.set (s' := { s with p := { s.p with ep := v0, ln := 2 } }) 0 (.int .i64 2) rfl
 have y2 : ((w1.setCell ⟨gx, 9, none⟩ (.int .u64 v0)).cell? ⟨gx, 0, none⟩).isSome = true := qa5y
 go_wp2
 go_ret
 exact qai
theorem epl3n {B : Nat} {w0 w : World} {g gl cap gx : Nat} {c : Cfg} {a : Acc} {L : List Int} {s : Wk} (h : MX B w0 g gl cap gx c a L s w) (hm : L.length ≤ 1000) (hL : WR L) (hf : c.Wf) (wk : Int) (hl : s.p.ln = 3) (he : ldV L 0 ≠ s.p.ep) : Calls Tryz.prog 159 #[.pointer (some ⟨g, 0, none⟩), .int .i64 wk, .pointer (some ⟨gx, 0, none⟩)] w (LP B w0 g gl cap gx c ⟨acc L 1 0 0 0, L, { s.p with ep := ldV L 0, ln := 2 }, 0, true⟩ s) := by
 have HC := Lib.hid (epConf0 h hm hL hf he)
 exact qas
theorem epl70 {B : Nat} {w0 w : World} {g gl cap gx : Nat} {c : Cfg} {a : Acc} {L : List Int} {s : Wk} (h : MX B w0 g gl cap gx c a L s w) (hm : L.length ≤ 1000) (hL : WR L) (hf : c.Wf) (wk : Int) (hl : s.p.ln = 70) : Calls Tryz.prog 159 #[.pointer (some ⟨g, 0, none⟩), .int .i64 wk, .pointer (some ⟨gx, 0, none⟩)] w (LP B w0 g gl cap gx c ⟨acc L 1 0 0 0, L, { s.p with v := ldV L 0, j := 0, ln := 71 }, 0, true⟩ s) := by
 have f0 : ∀ s : Wk, (wc s)[0]? = some (.int .i64 s.p.ln) := fun _ => rfl
 have f25 : ∀ s : Wk, (wc s)[25]? = some (.int .u64 s.p.v) := fun _ => rfl
 have f28 : ∀ s : Wk, (wc s)[28]? = some (.int .i64 s.p.j) := fun _ => rfl
 have t1 : (s.p.ln == 1) = false := jB hl
 have t2 : (s.p.ln == 2) = false := jB hl
 have t3 : (s.p.ln == 3) = false := jB hl
 have t90 : (s.p.ln == 90) = false := jB hl
 have t70 : (s.p.ln == 70) = true := jB hl
 have x0 := h.X.cells
 clear hl
 go_enter Tryz.func159, Tryz.ntmps159
 go_wp2_with fail
 refine (bF h.M hm 0).mono ?_
 rintro en w1 ⟨rfl, M1, T1⟩
 have H1 := h.mem M1 T1
 obtain ⟨v0, hv0⟩ : ∃ v, v = ldV L 0 := ⟨_, rfl⟩
 simp only [← hv0]
 have HV := Lib.hid hv0
 clear hv0 x0 M1 T1
 have H2 := H1.set (s' := { s with p := { s.p with v := v0 } }) 25 (.int .u64 v0) rfl
 have xw1 := H1.X.cells
 have zw1 := H1.X.frozen
 have ew1_25 : (w1.cell? ⟨gx, 25, none⟩).isSome = true := by rw [xw1, f25]; rfl
 have H3 := H2.set (s' := { s with p := { s.p with v := v0, j := 0 } }) 28 (.int .i64 0) rfl
 have y2 : ((w1.setCell ⟨gx, 25, none⟩ (.int .u64 v0)).cell? ⟨gx, 28, none⟩).isSome = true := by rw [H2.X.cells, f28]; rfl
 have H4 := H3.set (s' := { s with p := { s.p with v := v0, j := 0, ln := 71 } }) 0 (.int .i64 71) rfl
 have y3 : (((w1.setCell ⟨gx, 25, none⟩ (.int .u64 v0)).setCell ⟨gx, 28, none⟩ (.int .i64 0)).cell? ⟨gx, 0, none⟩).isSome = true := by rw [H3.X.cells, f0]; rfl
 go_wp2
 go_ret2
 have e1 := HV.out
 subst e1
 exact ⟨rfl, H4⟩
theorem epAska {B : Nat} {w0 w : World} {g gl cap gx : Nat} {c : Cfg} {a : Acc} {L : List Int} {s : Wk} (h : MX B w0 g gl cap gx c a L s w) (hm : L.length ≤ 1000) (hL : WR L) (hf : c.Wf) (ho : iq (ldV L (fB c s.p.j)) s.p.v = true) : Calls Tryz.prog 184 #[.pointer (some ⟨g, 0, none⟩), .pointer (some ⟨gx, 0, none⟩)] w fun e w' => e = .returned (.int .i64 2) ∧ MX B w0 g gl cap gx c (acc L 1 (fB c s.p.j) 0 0) L s w' := by
 have f0 : ∀ s : Wk, (wc s)[0]? = some (.int .i64 s.p.ln) := fun _ => rfl
 have f25 : ∀ s : Wk, (wc s)[25]? = some (.int .u64 s.p.v) := fun _ => rfl
 have f28 : ∀ s : Wk, (wc s)[28]? = some (.int .i64 s.p.j) := fun _ => rfl
 have HO := Lib.hid ho
 have hv := dP hL (fB c s.p.j)
 have HAN := Lib.hid (fun w => Pl.announce c hf s.p.j w)
 clear ho
 have x0 := h.X.cells
 have m0 := h.M.B.cells
 have lx := h.lt
 have lg := h.M.lt.1
 go_enter Tryz.func184, Tryz.ntmps184
 go_wp2
 have hS0 : ∃ a', MX B w0 g gl cap gx c a' L s w.drew := ⟨a, h.keep (Below.drew (Below.refl _ _))⟩
 refine wp_region_held_drew (S := fun w' => ∃ a', MX B w0 g gl cap gx c a' L s w') ah hS0 (fun hHeld => ?_)
 clear h hS0 x0 m0 lx lg
 generalize w.drew = vv at *
 refine jT 0 (.pointer (some ⟨g, 0, none⟩)) rfl hHeld ?_
 try simp only [Act.put, jP]
 refine jT 1 (.pointer (some ⟨g, 0, none⟩)) rfl hHeld ?_
 try simp only [Act.put, jP]
 refine jT 2 (.pointer (some ⟨g, 0, none⟩)) rfl hHeld ?_
 try simp only [Act.put, jP]
 refine jT 3 (.pointer (some ⟨g, 0, none⟩)) rfl hHeld ?_
 try simp only [Act.put, jP]
 refine jY 4 (cv c) rfl (Or.inl ⟨by rfl, fun w' hSw => by obtain ⟨a', HS⟩ := hSw; have xx := HS.M.B.cells; go_simp⟩) hHeld ?_
 try simp only [Act.put, jP]
 refine jT 5 (.pointer (some ⟨gx, 0, none⟩)) rfl hHeld ?_
 try simp only [Act.put, jP]
 refine jT 6 (.pointer (some ⟨gx, 0, none⟩)) rfl hHeld ?_
 try simp only [Act.put, jP]
 refine jT 7 (.pointer (some ⟨gx, 28, none⟩)) rfl hHeld ?_
 try simp only [Act.put, jP]
 refine jY 8 (.int .i64 s.p.j) rfl (Or.inl ⟨by rfl, fun w' hSw => by obtain ⟨a', HS⟩ := hSw; have xx := HS.X.cells; go_simp⟩) hHeld ?_
 try simp only [Act.put, jP]
 refine jR [9] ?_
 refine jC rfl (fun K hK => ?_) jN
 go_simp
 refine (HAN.out _).mono ?_
 rintro en w1 ⟨rfl, hb1⟩
 obtain ⟨a1, H1⟩ := hHeld
 refine hK.out _ _ ⟨a1, H1.keep hb1⟩ (fun hHeld => ?_)
 clear hK K H1 hb1
 try simp only [Act.put, jP]
 refine jR [10] ?_
 refine jC rfl (fun K hK => ?_) jN
 go_simp
 obtain ⟨a1, H1⟩ := hHeld
 refine (bF H1.M hm _).mono ?_
 rintro en w2 ⟨rfl, M2, T2⟩
 have H2 := H1.mem M2 T2
 refine hK.out _ _ ⟨_, H2⟩ (fun hHeld => ?_)
 clear hK K H1 M2 T2
 obtain ⟨v0, hv0⟩ : ∃ v, v = ldV L (fB c s.p.j) := ⟨_, rfl⟩
 simp only [← hv0]
 rw [← hv0] at hv HO
 have HV := Lib.hid hv0
 clear hv0
 try simp only [Act.put, jP]
 refine jR [11] ?_
 refine jC rfl (fun K hK => ?_) jN
 go_simp
 refine (Pk.unannounce v0 hv.1 hv.2 _).mono ?_
 rintro en w3 ⟨rfl, rfl⟩
 refine hK.out _ _ hHeld (fun hHeld => ?_)
 clear hK K
 try simp only [Act.put, jP]
 refine jT 12 (.tuple #[.int .u64 (v0 / 2), .bool (v0 % 2 == 1)]) rfl hHeld ?_
 try simp only [Act.put, jP]
 refine jT 13 (.int .u64 (v0 / 2)) rfl hHeld ?_
 try simp only [Act.put, jP]
 refine jT 14 (.bool (v0 % 2 == 1)) rfl hHeld ?_
 try simp only [Act.put, jP]
 refine jT 15 (.int .u64 (v0 / 2)) rfl hHeld ?_
 try simp only [Act.put, jP]
 refine jT 16 (.bool (v0 % 2 == 1)) rfl hHeld ?_
 try simp only [Act.put, jP]
 refine wpAnyH_done ah ?_ _
 clear hHeld
 have ho := HO.out
 unfold iq at ho
 simp only [Bool.and_eq_true, decide_eq_true_eq] at ho
 have b1 : (v0 % 2 == 1) = true := by simp [ho.1]
 have b2 : (v0 / 2 != s.p.v) = true := by simp [ho.2]
 have x2 := H2.X.cells
 clear ho
 go_wp2
 go_ret
 have e1 := HV.out
 subst e1
 exact ⟨rfl, H2⟩
theorem epl71a {B : Nat} {w0 w : World} {g gl cap gx : Nat} {c : Cfg} {a : Acc} {L : List Int} {s : Wk} (h : MX B w0 g gl cap gx c a L s w) (hm : L.length ≤ 1000) (hL : WR L) (hf : c.Wf) (wk : Int) (hl : s.p.ln = 71) (ho : iq (ldV L (fB c s.p.j)) s.p.v = true) : Calls Tryz.prog 159 #[.pointer (some ⟨g, 0, none⟩), .int .i64 wk, .pointer (some ⟨gx, 0, none⟩)] w (LP B w0 g gl cap gx c ⟨acc L 1 (fB c s.p.j) 0 0, L, s.p, 2, true⟩ s) := by
 have HC := Lib.hid (epAska h hm hL hf ho)
 clear ho
 exact qa46
theorem epAskb {B : Nat} {w0 w : World} {g gl cap gx : Nat} {c : Cfg} {a : Acc} {L : List Int} {s : Wk} (h : MX B w0 g gl cap gx c a L s w) (hm : L.length ≤ 1000) (hL : WR L) (hf : c.Wf) (ho : iq (ldV L (fB c s.p.j)) s.p.v = false) (hj : wrap64 (c.ww - 1) ≤ s.p.j) : Calls Tryz.prog 184 #[.pointer (some ⟨g, 0, none⟩), .pointer (some ⟨gx, 0, none⟩)] w fun e w' => e = .returned (.int .i64 0) ∧ MX B w0 g gl cap gx c (acc L 1 (fB c s.p.j) 0 0) L { s with p := { s.p with j := wrap64 (s.p.j + 1), ln := 72 } } w' := by
 have f0 : ∀ s : Wk, (wc s)[0]? = some (.int .i64 s.p.ln) := fun _ => rfl
 have f25 : ∀ s : Wk, (wc s)[25]? = some (.int .u64 s.p.v) := fun _ => rfl
 have f28 : ∀ s : Wk, (wc s)[28]? = some (.int .i64 s.p.j) := fun _ => rfl
 have HO := Lib.hid ho
 have hv := dP hL (fB c s.p.j)
 have HAN := Lib.hid (fun w => Pl.announce c hf s.p.j w)
 clear ho
 have hd : decide (wrap64 (c.ww - 1) ≤ s.p.j) = true := by simp [hj]
 clear hj
 have x0 := h.X.cells
 have m0 := h.M.B.cells
 have lx := h.lt
 have lg := h.M.lt.1
 go_enter Tryz.func184, Tryz.ntmps184
 go_wp2
 have hS0 : ∃ a', MX B w0 g gl cap gx c a' L s w.drew := ⟨a, h.keep (Below.drew (Below.refl _ _))⟩
 refine wp_region_held_drew (S := fun w' => ∃ a', MX B w0 g gl cap gx c a' L s w') ah hS0 (fun hHeld => ?_)
 clear h hS0 x0 m0 lx lg
 generalize w.drew = vv at *
 refine jT 0 (.pointer (some ⟨g, 0, none⟩)) rfl hHeld ?_
 try simp only [Act.put, jP]
 refine jT 1 (.pointer (some ⟨g, 0, none⟩)) rfl hHeld ?_
 try simp only [Act.put, jP]
 refine jT 2 (.pointer (some ⟨g, 0, none⟩)) rfl hHeld ?_
 try simp only [Act.put, jP]
 refine jT 3 (.pointer (some ⟨g, 0, none⟩)) rfl hHeld ?_
 try simp only [Act.put, jP]
 refine jY 4 (cv c) rfl (Or.inl ⟨by rfl, fun w' hSw => by obtain ⟨a', HS⟩ := hSw; have xx := HS.M.B.cells; go_simp⟩) hHeld ?_
 try simp only [Act.put, jP]
 refine jT 5 (.pointer (some ⟨gx, 0, none⟩)) rfl hHeld ?_
 try simp only [Act.put, jP]
 refine jT 6 (.pointer (some ⟨gx, 0, none⟩)) rfl hHeld ?_
 try simp only [Act.put, jP]
 refine jT 7 (.pointer (some ⟨gx, 28, none⟩)) rfl hHeld ?_
 try simp only [Act.put, jP]
 refine jY 8 (.int .i64 s.p.j) rfl (Or.inl ⟨by rfl, fun w' hSw => by obtain ⟨a', HS⟩ := hSw; have xx := HS.X.cells; go_simp⟩) hHeld ?_
 try simp only [Act.put, jP]
 refine jR [9] ?_
 refine jC rfl (fun K hK => ?_) jN
 go_simp
 refine (HAN.out _).mono ?_
 rintro en w1 ⟨rfl, hb1⟩
 obtain ⟨a1, H1⟩ := hHeld
 refine hK.out _ _ ⟨a1, H1.keep hb1⟩ (fun hHeld => ?_)
 clear hK K H1 hb1
 try simp only [Act.put, jP]
 refine jR [10] ?_
 refine jC rfl (fun K hK => ?_) jN
 go_simp
 obtain ⟨a1, H1⟩ := hHeld
 refine (bF H1.M hm _).mono ?_
 rintro en w2 ⟨rfl, M2, T2⟩
 have H2 := H1.mem M2 T2
 refine hK.out _ _ ⟨_, H2⟩ (fun hHeld => ?_)
 clear hK K H1 M2 T2
 obtain ⟨v0, hv0⟩ : ∃ v, v = ldV L (fB c s.p.j) := ⟨_, rfl⟩
 simp only [← hv0]
 rw [← hv0] at hv HO
 have HV := Lib.hid hv0
 clear hv0
 try simp only [Act.put, jP]
 refine jR [11] ?_
 refine jC rfl (fun K hK => ?_) jN
 go_simp
 refine (Pk.unannounce v0 hv.1 hv.2 _).mono ?_
 rintro en w3 ⟨rfl, rfl⟩
 refine hK.out _ _ hHeld (fun hHeld => ?_)
 clear hK K
 try simp only [Act.put, jP]
 refine jT 12 (.tuple #[.int .u64 (v0 / 2), .bool (v0 % 2 == 1)]) rfl hHeld ?_
 try simp only [Act.put, jP]
 refine jT 13 (.int .u64 (v0 / 2)) rfl hHeld ?_
 try simp only [Act.put, jP]
 refine jT 14 (.bool (v0 % 2 == 1)) rfl hHeld ?_
 try simp only [Act.put, jP]
 refine jT 15 (.int .u64 (v0 / 2)) rfl hHeld ?_
 try simp only [Act.put, jP]
 refine jT 16 (.bool (v0 % 2 == 1)) rfl hHeld ?_
 try simp only [Act.put, jP]
 refine wpAnyH_done ah ?_ _
 clear hHeld
 by_cases hb : v0 % 2 = 1
 have b1 : (v0 % 2 == 1) = true := by simp [hb]
 have b2 : (v0 / 2 != s.p.v) = false := by
  have ho := HO.out
  unfold iq at ho
  rw [decide_eq_true hb, Bool.true_and] at ho
  simpa using ho
 rotate_left
 have b1 : (v0 % 2 == 1) = false := by simp [hb]
 rotate_left
 all_goals
  clear hb
  have H3 := H2.set (s' := { s with p := { s.p with ln := 71 } }) 0 (.int .i64 71) rfl
  have xw2 := H2.X.cells
  have zw2 := H2.X.frozen
  have ew2_0 : (w2.cell? ⟨gx, 0, none⟩).isSome = true := qa5g
  go_wp2
  generalize w2.setCell ⟨gx, 0, none⟩ (.int .i64 71) = w4 at *
  clear xw2 zw2 ew2_0 H2
  have x4 := H3.X.cells
  have m4 := H3.M.B.cells
  have lx4 := H3.lt
  have lg4 := H3.M.lt.1
  refine aN ah ah ?_
  have hg := @cK
  repeat (go_big_quiet_step (fail))
  refine wpQuiet_nil ?_
  rintro w5 ⟨⟨_, hb5⟩, rfl⟩
  clear hg
  have H5 := H3.keep hb5
  clear x4 m4 lx4 lg4 H3 hb5
  have H6 := H5.set (s' := { s with p := { s.p with ln := 72 } }) 0 (.int .i64 72) rfl
  have xw5 := H5.X.cells
  have zw5 := H5.X.frozen
  have ew5_0 : (w5.cell? ⟨gx, 0, none⟩).isSome = true := by rw [xw5, f0]; rfl
  have H7 := H6.set (s' := { s with p := { s.p with j := wrap64 (s.p.j + 1), ln := 72 } }) 28 (.int .i64 (wrap64 (s.p.j + 1))) rfl
  have y7 : ((w5.setCell ⟨gx, 0, none⟩ (.int .i64 72)).cell? ⟨gx, 28, none⟩).isSome = true := by rw [H6.X.cells, f28]; rfl
  go_wp2
  go_ret
  have e1 := HV.out
  subst e1
  exact ⟨rfl, H7⟩
theorem epl71b {B : Nat} {w0 w : World} {g gl cap gx : Nat} {c : Cfg} {a : Acc} {L : List Int} {s : Wk} (h : MX B w0 g gl cap gx c a L s w) (hm : L.length ≤ 1000) (hL : WR L) (hf : c.Wf) (wk : Int) (hl : s.p.ln = 71) (ho : iq (ldV L (fB c s.p.j)) s.p.v = false) (hj : wrap64 (c.ww - 1) ≤ s.p.j) : Calls Tryz.prog 159 #[.pointer (some ⟨g, 0, none⟩), .int .i64 wk, .pointer (some ⟨gx, 0, none⟩)] w (LP B w0 g gl cap gx c ⟨acc L 1 (fB c s.p.j) 0 0, L, { s.p with j := wrap64 (s.p.j + 1), ln := 72 }, 0, true⟩ s) := by
 have HC := Lib.hid (epAskb h hm hL hf ho hj)
 exact qat
theorem epAskc {B : Nat} {w0 w : World} {g gl cap gx : Nat} {c : Cfg} {a : Acc} {L : List Int} {s : Wk} (h : MX B w0 g gl cap gx c a L s w) (hm : L.length ≤ 1000) (hL : WR L) (hf : c.Wf) (ho : iq (ldV L (fB c s.p.j)) s.p.v = false) (hj : ¬ wrap64 (c.ww - 1) ≤ s.p.j) : Calls Tryz.prog 184 #[.pointer (some ⟨g, 0, none⟩), .pointer (some ⟨gx, 0, none⟩)] w fun e w' => e = .returned (.int .i64 0) ∧ MX B w0 g gl cap gx c (acc L 1 (fB c s.p.j) 0 0) L { s with p := { s.p with j := wrap64 (s.p.j + 1), ln := 71 } } w' := by
 have f0 : ∀ s : Wk, (wc s)[0]? = some (.int .i64 s.p.ln) := fun _ => rfl
 have f25 : ∀ s : Wk, (wc s)[25]? = some (.int .u64 s.p.v) := fun _ => rfl
 have f28 : ∀ s : Wk, (wc s)[28]? = some (.int .i64 s.p.j) := fun _ => rfl
 have HO := Lib.hid ho
 have hv := dP hL (fB c s.p.j)
 have HAN := Lib.hid (fun w => Pl.announce c hf s.p.j w)
 clear ho
 have hd : decide (wrap64 (c.ww - 1) ≤ s.p.j) = false := bq
 clear hj
 have x0 := h.X.cells
 have m0 := h.M.B.cells
 have lx := h.lt
 have lg := h.M.lt.1
 go_enter Tryz.func184, Tryz.ntmps184
 go_wp2
 have hS0 : ∃ a', MX B w0 g gl cap gx c a' L s w.drew := ⟨a, h.keep (Below.drew (Below.refl _ _))⟩
 refine wp_region_held_drew (S := fun w' => ∃ a', MX B w0 g gl cap gx c a' L s w') ah hS0 (fun hHeld => ?_)
 clear h hS0 x0 m0 lx lg
 generalize w.drew = vv at *
 refine jT 0 (.pointer (some ⟨g, 0, none⟩)) rfl hHeld ?_
 try simp only [Act.put, jP]
 refine jT 1 (.pointer (some ⟨g, 0, none⟩)) rfl hHeld ?_
 try simp only [Act.put, jP]
 refine jT 2 (.pointer (some ⟨g, 0, none⟩)) rfl hHeld ?_
 try simp only [Act.put, jP]
 refine jT 3 (.pointer (some ⟨g, 0, none⟩)) rfl hHeld ?_
 try simp only [Act.put, jP]
 refine jY 4 (cv c) rfl (Or.inl ⟨by rfl, fun w' hSw => by obtain ⟨a', HS⟩ := hSw; have xx := HS.M.B.cells; go_simp⟩) hHeld ?_
 try simp only [Act.put, jP]
 refine jT 5 (.pointer (some ⟨gx, 0, none⟩)) rfl hHeld ?_
 try simp only [Act.put, jP]
 refine jT 6 (.pointer (some ⟨gx, 0, none⟩)) rfl hHeld ?_
 try simp only [Act.put, jP]
 refine jT 7 (.pointer (some ⟨gx, 28, none⟩)) rfl hHeld ?_
 try simp only [Act.put, jP]
 refine jY 8 (.int .i64 s.p.j) rfl (Or.inl ⟨by rfl, fun w' hSw => by obtain ⟨a', HS⟩ := hSw; have xx := HS.X.cells; go_simp⟩) hHeld ?_
 try simp only [Act.put, jP]
 refine jR [9] ?_
 refine jC rfl (fun K hK => ?_) jN
 go_simp
 refine (HAN.out _).mono ?_
 rintro en w1 ⟨rfl, hb1⟩
 obtain ⟨a1, H1⟩ := hHeld
 refine hK.out _ _ ⟨a1, H1.keep hb1⟩ (fun hHeld => ?_)
 clear hK K H1 hb1
 try simp only [Act.put, jP]
 refine jR [10] ?_
 refine jC rfl (fun K hK => ?_) jN
 go_simp
 obtain ⟨a1, H1⟩ := hHeld
 refine (bF H1.M hm _).mono ?_
 rintro en w2 ⟨rfl, M2, T2⟩
 have H2 := H1.mem M2 T2
 refine hK.out _ _ ⟨_, H2⟩ (fun hHeld => ?_)
 clear hK K H1 M2 T2
 obtain ⟨v0, hv0⟩ : ∃ v, v = ldV L (fB c s.p.j) := ⟨_, rfl⟩
 simp only [← hv0]
 rw [← hv0] at hv HO
 have HV := Lib.hid hv0
 clear hv0
 try simp only [Act.put, jP]
 refine jR [11] ?_
 refine jC rfl (fun K hK => ?_) jN
 go_simp
 refine (Pk.unannounce v0 hv.1 hv.2 _).mono ?_
 rintro en w3 ⟨rfl, rfl⟩
 refine hK.out _ _ hHeld (fun hHeld => ?_)
 clear hK K
 try simp only [Act.put, jP]
 refine jT 12 (.tuple #[.int .u64 (v0 / 2), .bool (v0 % 2 == 1)]) rfl hHeld ?_
 try simp only [Act.put, jP]
 refine jT 13 (.int .u64 (v0 / 2)) rfl hHeld ?_
 try simp only [Act.put, jP]
 refine jT 14 (.bool (v0 % 2 == 1)) rfl hHeld ?_
 try simp only [Act.put, jP]
 refine jT 15 (.int .u64 (v0 / 2)) rfl hHeld ?_
 try simp only [Act.put, jP]
 refine jT 16 (.bool (v0 % 2 == 1)) rfl hHeld ?_
 try simp only [Act.put, jP]
 refine wpAnyH_done ah ?_ _
 clear hHeld
 by_cases hb : v0 % 2 = 1
 have b1 : (v0 % 2 == 1) = true := by simp [hb]
 have b2 : (v0 / 2 != s.p.v) = false := by
  have ho := HO.out
  unfold iq at ho
  rw [decide_eq_true hb, Bool.true_and] at ho
  simpa using ho
 rotate_left
 have b1 : (v0 % 2 == 1) = false := by simp [hb]
 rotate_left
 all_goals
  clear hb
  have H3 := H2.set (s' := { s with p := { s.p with ln := 71 } }) 0 (.int .i64 71) rfl
  have xw2 := H2.X.cells
  have zw2 := H2.X.frozen
  have ew2_0 : (w2.cell? ⟨gx, 0, none⟩).isSome = true := qa5g
  go_wp2
  generalize w2.setCell ⟨gx, 0, none⟩ (.int .i64 71) = w4 at *
  clear xw2 zw2 ew2_0 H2
  have x4 := H3.X.cells
  have m4 := H3.M.B.cells
  have lx4 := H3.lt
  have lg4 := H3.M.lt.1
  refine aN ah ah ?_
  have hg := @cK
  repeat (go_big_quiet_step (fail))
  refine wpQuiet_nil ?_
  rintro w5 ⟨⟨_, hb5⟩, rfl⟩
  clear hg
  have H5 := H3.keep hb5
  clear x4 m4 lx4 lg4 H3 hb5
  have H7 := H5.set (s' := { s with p := { s.p with j := wrap64 (s.p.j + 1), ln := 71 } }) 28 (.int .i64 (wrap64 (s.p.j + 1))) rfl
  have xw5 := H5.X.cells
  have zw5 := H5.X.frozen
  have ew5_28 : (w5.cell? ⟨gx, 28, none⟩).isSome = true := by rw [xw5, f28]; rfl
  go_wp2
  go_ret
  have e1 := HV.out
  subst e1
  exact ⟨rfl, H7⟩
theorem epl71c {B : Nat} {w0 w : World} {g gl cap gx : Nat} {c : Cfg} {a : Acc} {L : List Int} {s : Wk} (h : MX B w0 g gl cap gx c a L s w) (hm : L.length ≤ 1000) (hL : WR L) (hf : c.Wf) (wk : Int) (hl : s.p.ln = 71) (ho : iq (ldV L (fB c s.p.j)) s.p.v = false) (hj : ¬ wrap64 (c.ww - 1) ≤ s.p.j) : Calls Tryz.prog 159 #[.pointer (some ⟨g, 0, none⟩), .int .i64 wk, .pointer (some ⟨gx, 0, none⟩)] w (LP B w0 g gl cap gx c ⟨acc L 1 (fB c s.p.j) 0 0, L, { s.p with j := wrap64 (s.p.j + 1), ln := 71 }, 0, true⟩ s) := by
 have HC := Lib.hid (epAskc h hm hL hf ho hj)
 exact qat
theorem epl72y {B : Nat} {w0 w : World} {g gl cap gx : Nat} {c : Cfg} {a : Acc} {L : List Int} {s : Wk} (h : MX B w0 g gl cap gx c a L s w) (hm : L.length ≤ 1000) (hL : WR L) (hf : c.Wf) (wk : Int) (hl : s.p.ln = 72) (hb : csB L 0 s.p.v = true) : Calls Tryz.prog 159 #[.pointer (some ⟨g, 0, none⟩), .int .i64 wk, .pointer (some ⟨gx, 0, none⟩)] w (LP B w0 g gl cap gx c ⟨acc L 3 0 s.p.v (IntKind.u64.wrap (s.p.v + 1)), csL L 0 s.p.v (IntKind.u64.wrap (s.p.v + 1)), s.p, 1, true⟩ s) := qau
theorem epl72n {B : Nat} {w0 w : World} {g gl cap gx : Nat} {c : Cfg} {a : Acc} {L : List Int} {s : Wk} (h : MX B w0 g gl cap gx c a L s w) (hm : L.length ≤ 1000) (hL : WR L) (hf : c.Wf) (wk : Int) (hl : s.p.ln = 72) (hb : csB L 0 s.p.v = false) : Calls Tryz.prog 159 #[.pointer (some ⟨g, 0, none⟩), .int .i64 wk, .pointer (some ⟨gx, 0, none⟩)] w (LP B w0 g gl cap gx c ⟨acc L 3 0 s.p.v (IntKind.u64.wrap (s.p.v + 1)), csL L 0 s.p.v (IntKind.u64.wrap (s.p.v + 1)), s.p, 2, true⟩ s) := qau
theorem eplNone {B : Nat} {w0 w : World} {g gl cap gx : Nat} {c : Cfg} {a : Acc} {L : List Int} {s : Wk} (h : MX B w0 g gl cap gx c a L s w) (hm : L.length ≤ 1000) (hL : WR L) (hf : c.Wf) (wk : Int) (hl : s.p.ln ≠ 1 ∧ s.p.ln ≠ 2 ∧ s.p.ln ≠ 3 ∧ s.p.ln ≠ 90 ∧ s.p.ln ≠ 70 ∧ s.p.ln ≠ 71 ∧ s.p.ln ≠ 72) : Calls Tryz.prog 159 #[.pointer (some ⟨g, 0, none⟩), .int .i64 wk, .pointer (some ⟨gx, 0, none⟩)] w (LP B w0 g gl cap gx c ⟨a, L, s.p, 0, false⟩ s) := by
 have f0 : ∀ s : Wk, (wc s)[0]? = some (.int .i64 s.p.ln) := fun _ => rfl
 have t1 : (s.p.ln == 1) = false := bq
 have t2 : (s.p.ln == 2) = false := bq
 have t3 : (s.p.ln == 3) = false := bq
 have t90 : (s.p.ln == 90) = false := bq
 have t70 : (s.p.ln == 70) = false := bq
 have t71 : (s.p.ln == 71) = false := bq
 have t72 : (s.p.ln == 72) = false := bq
 have x0 := h.X.cells
 clear hl
 go_enter Tryz.func159, Tryz.ntmps159
 go_wp2
 go_ret2
 exact ⟨rfl, h⟩
theorem epochLine {B : Nat} {w0 w : World} {g gl cap gx : Nat} {c : Cfg} {a : Acc} {L : List Int} {s : Wk} (h : MX B w0 g gl cap gx c a L s w) (hm : L.length ≤ 1000) (hL : WR L) (hf : c.Wf) (wk : Int) : Calls Tryz.prog 159 #[.pointer (some ⟨g, 0, none⟩), .int .i64 wk, .pointer (some ⟨gx, 0, none⟩)] w (LP B w0 g gl cap gx c (bX c a L s.p wk) s) := by
 unfold bX
 by_cases h1 : s.p.ln = 1
 ·rw [if_pos h1]; exact epl1 h hm hL hf wk h1
 rw [if_neg h1]
 by_cases h2 : s.p.ln = 2
 ·rw [if_pos h2]; exact epl2 h hm hL hf wk h2
 rw [if_neg h2]
 by_cases h3 : s.p.ln = 3
 ·rw [if_pos h3]
  unfold ep3
  split
  ·rename_i he; exact epl3y h hm hL hf wk h3 he
  ·rename_i he; exact epl3n h hm hL hf wk h3 he
 rw [if_neg h3]
 by_cases h90 : s.p.ln = 90
 ·rw [if_pos h90]; exact epl90 h hm hL hf wk h90
 rw [if_neg h90]
 by_cases h70 : s.p.ln = 70
 ·rw [if_pos h70]; exact epl70 h hm hL hf wk h70
 rw [if_neg h70]
 by_cases h71 : s.p.ln = 71
 ·rw [if_pos h71]
  unfold ep71
  cases ho : iq (ldV L (fB c s.p.j)) s.p.v with
  | true => rw [if_pos rfl]; exact epl71a h hm hL hf wk h71 ho
  | false =>
   rw [if_neg aF]
   by_cases hj : wrap64 (c.ww - 1) ≤ s.p.j
   ·rw [if_pos hj]; exact epl71b h hm hL hf wk h71 ho hj
   ·rw [if_neg hj]; exact epl71c h hm hL hf wk h71 ho hj
 rw [if_neg h71]
 by_cases h72 : s.p.ln = 72
 ·rw [if_pos h72]
  unfold ep72
  cases hb : csB L 0 s.p.v with
  | true => rw [if_pos rfl]; exact epl72y h hm hL hf wk h72 hb
  | false => rw [if_neg aF]; exact epl72n h hm hL hf wk h72 hb
 rw [if_neg h72]
 exact eplNone h hm hL hf wk ⟨h1, h2, h3, h90, h70, h71, h72⟩
theorem epochStepAny {B : Nat} {w : World} {g gl cap : Nat} {c : Cfg} {a : Acc} {L : List Int} (M : aC B w g c a gl cap L) (hf : c.Wf) (hm : L.length ≤ 1000) (hL : WR L) (s : Wk) (x : St) (hx : Few 1000 x) (h : aP w s x) (hp : PR x.p) (wk : Int) :
  Calls Tryz.prog 133 #[.pointer (some ⟨g, 0, none⟩), .int .i64 wk, wv s] w (iI B g gl cap c (bX c a L x.p wk).fin x w) :=
 epochStep M s x hx h wk _ fun gx s1 w1 H e => by
  have := epochLine H hm hL hf wk
  rwa [e] at this
end Go.Proofs.YtaiodbcnbcdokaaGreat.Me
end
