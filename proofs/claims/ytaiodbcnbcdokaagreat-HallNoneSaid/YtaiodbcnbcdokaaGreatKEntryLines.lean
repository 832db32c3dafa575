/- Part EntryLines. -/
import Derived.Test.YtaiodbcnbcdokaaGreatKEntryFn
set_option linter.unusedVariables false
set_option linter.unusedSimpArgs false
set_option linter.unusedSectionVars false
set_option maxRecDepth 100000
set_option maxHeartbeats 16000000
namespace Go.Proofs.YtaiodbcnbcdokaaGreat.Me
open Go Go.RowKit Gro Own Wd Ap Go.Proofs.YtaiodbcnbcdokaaGreat.Pl Wo
theorem enLive1 (v q : Int) (h0 : 0 ≤ v) (h1 : v < 18446744073709551616) (hs : v % 16 = 1) (w : World) : Calls Tryz.prog 91 #[.int .u64 v, .int .u64 q] w fun e w' => e = .returned (.tuple #[.int .i64 (v / 16 % 65536 - 1), .bool (v / 1048576 == q)]) ∧ w = w' := by
 have te : (v % 16 == 1) = true := qa5v
 exact qah
theorem enLive0 (v q : Int) (h0 : 0 ≤ v) (h1 : v < 18446744073709551616) (hs : v % 16 ≠ 1) (w : World) : Calls Tryz.prog 91 #[.int .u64 v, .int .u64 q] w fun e w' => e = .returned (.tuple #[.int .i64 (v / 16 % 65536 - 1), .bool false]) ∧ w = w' := by
 have te : (v % 16 == 1) = false := qa5v
 exact qah
theorem enLive (v q : Int) (h0 : 0 ≤ v) (h1 : v < 18446744073709551616) (w : World) : Calls Tryz.prog 91 #[.int .u64 v, .int .u64 q] w fun e w' => e = .returned (.tuple #[.int .i64 (v / 16 % 65536 - 1), .bool (enB v q)]) ∧ w = w' := by
 unfold enB
 by_cases hs : v % 16 = 1
 ·rw [decide_eq_true hs]; exact enLive1 v q h0 h1 hs w
 ·rw [decide_eq_false hs]; exact enLive0 v q h0 h1 hs w
theorem enFind1 {B : Nat} {w0 w : World} {g gl cap gx : Nat} {c : Cfg} {a : Acc} {L : List Int} {s : Wk} (h : MX B w0 g gl cap gx c a L s w) (hm : L.length ≤ 1000) (hL : WR L) (hf : c.Wf) (ht : 0 ≤ s.p.t ∧ s.p.t < 18446744073709551616) (hb : enB (ldV L (bf c (s.p.t % 65536 - 1))) (s.p.t / 65536) = true) : Calls Tryz.prog 208 #[.pointer (some ⟨g, 0, none⟩), .pointer (some ⟨gx, 0, none⟩)] w fun e w' => e = .returned (.int .i64 1) ∧ MX B w0 g gl cap gx c (acc L 1 (bf c (s.p.t % 65536 - 1)) 0 0) (L) { s with p := { s.p with v := ldV L (bf c (s.p.t % 65536 - 1)), c := ldV L (bf c (s.p.t % 65536 - 1)) / 16 % 65536 } } w' := by
 have f21 : ∀ s : Wk, (wc s)[21]? = some (.int .i64 s.p.c) := fun _ => rfl
 have f25 : ∀ s : Wk, (wc s)[25]? = some (.int .u64 s.p.v) := fun _ => rfl
 have f30 : ∀ s : Wk, (wc s)[30]? = some (.int .u64 s.p.t) := fun _ => rfl
 have HUT := Lib.hid (fun w => Pk.eO s.p.t ht.1 ht.2 w)
 have HB := Lib.hid hb
 have hv := dP hL (bf c (s.p.t % 65536 - 1))
 have HAN := Lib.hid (fun w => Pl.entry c hf (s.p.t % 65536 - 1) w)
 have x0 := h.X.cells
 have m0 := h.M.B.cells
 clear hb
 go_enter Tryz.func208, Tryz.ntmps208
 go_wp2_with fail
 refine (HUT.out _).mono ?_
 rintro en w1 ⟨rfl, rfl⟩
 go_wp2_with fail
 refine (HAN.out _).mono ?_
 rintro en w2 ⟨rfl, hb2⟩
 have H2 := h.keep hb2
 clear x0 m0 hb2
 go_wp2_with fail
 refine (bF H2.M hm _).mono ?_
 rintro en w3 ⟨rfl, M3, T3⟩
 have H3 := H2.mem M3 T3
 obtain ⟨v0, hv0⟩ : ∃ v, v = ldV L (bf c (s.p.t % 65536 - 1)) := ⟨_, rfl⟩
 simp only [← hv0]
 rw [← hv0] at HB hv
 have HV := Lib.hid hv0
 clear hv0 H2 M3 T3
 have HLV := Lib.hid (fun w => HB.out ▸ enLive v0 (s.p.t / 65536) hv.1 hv.2 w)
 have HW := Lib.hid (show wrap64 (v0 / 16 % 65536 - 1 + 1) = v0 / 16 % 65536 by rw [IntWalk.wrap64_in _ aj]; omega)
 clear hv
 go_wp2_with fail
 refine (HLV.out _).mono ?_
 rintro en w4 ⟨rfl, rfl⟩
 have H4 := H3.set (s' := { s with p := { s.p with v := v0 } }) 25 (.int .u64 v0) rfl
 have xw3 := H3.X.cells
 have zw3 := H3.X.frozen
 have ew3_25 : (w3.cell? ⟨gx, 25, none⟩).isSome = true := qa5d
 have H5 := H4.set (s' := { s with p := { s.p with v := v0, c := v0 / 16 % 65536 } }) 21 (.int .i64 (v0 / 16 % 65536)) rfl
 have y2 : ((w3.setCell ⟨gx, 25, none⟩ (.int .u64 v0)).cell? ⟨gx, 21, none⟩).isSome = true := by rw [H4.X.cells, f21]; rfl
 go_wp2_with (first | rw [HW.out])
 go_wp2
 go_ret
 have e1 := HV.out
 subst e1
 exact ⟨rfl, H5⟩
theorem enFind0 {B : Nat} {w0 w : World} {g gl cap gx : Nat} {c : Cfg} {a : Acc} {L : List Int} {s : Wk} (h : MX B w0 g gl cap gx c a L s w) (hm : L.length ≤ 1000) (hL : WR L) (hf : c.Wf) (ht : 0 ≤ s.p.t ∧ s.p.t < 18446744073709551616) (hb : enB (ldV L (bf c (s.p.t % 65536 - 1))) (s.p.t / 65536) = false) : Calls Tryz.prog 208 #[.pointer (some ⟨g, 0, none⟩), .pointer (some ⟨gx, 0, none⟩)] w fun e w' => e = .returned (.int .i64 2) ∧ MX B w0 g gl cap gx c (acc L 1 (bf c (s.p.t % 65536 - 1)) 0 0) (L) s w' := by
 have f21 : ∀ s : Wk, (wc s)[21]? = some (.int .i64 s.p.c) := fun _ => rfl
 have f25 : ∀ s : Wk, (wc s)[25]? = some (.int .u64 s.p.v) := fun _ => rfl
 have f30 : ∀ s : Wk, (wc s)[30]? = some (.int .u64 s.p.t) := fun _ => rfl
 have HUT := Lib.hid (fun w => Pk.eO s.p.t ht.1 ht.2 w)
 have HB := Lib.hid hb
 have hv := dP hL (bf c (s.p.t % 65536 - 1))
 have HAN := Lib.hid (fun w => Pl.entry c hf (s.p.t % 65536 - 1) w)
 have x0 := h.X.cells
 have m0 := h.M.B.cells
 clear hb
 go_enter Tryz.func208, Tryz.ntmps208
 go_wp2_with fail
 refine (HUT.out _).mono ?_
 rintro en w1 ⟨rfl, rfl⟩
 go_wp2_with fail
 refine (HAN.out _).mono ?_
 rintro en w2 ⟨rfl, hb2⟩
 have H2 := h.keep hb2
 clear x0 m0 hb2
 go_wp2_with fail
 refine (bF H2.M hm _).mono ?_
 rintro en w3 ⟨rfl, M3, T3⟩
 have H3 := H2.mem M3 T3
 obtain ⟨v0, hv0⟩ : ∃ v, v = ldV L (bf c (s.p.t % 65536 - 1)) := ⟨_, rfl⟩
 simp only [← hv0]
 rw [← hv0] at HB hv
 have HV := Lib.hid hv0
 clear hv0 H2 M3 T3
 have HLV := Lib.hid (fun w => HB.out ▸ enLive v0 (s.p.t / 65536) hv.1 hv.2 w)
 have HW := Lib.hid (show wrap64 (v0 / 16 % 65536 - 1 + 1) = v0 / 16 % 65536 by rw [IntWalk.wrap64_in _ aj]; omega)
 clear hv
 go_wp2_with fail
 refine (HLV.out _).mono ?_
 rintro en w4 ⟨rfl, rfl⟩
 go_wp2
 go_ret
 exact qai
theorem enCreate {B : Nat} {w0 w : World} {g gl cap gx : Nat} {c : Cfg} {a : Acc} {L : List Int} {s : Wk} (h : MX B w0 g gl cap gx c a L s w) (hm : L.length ≤ 1000) (hL : WR L) (hf : c.Wf) (ht : 0 ≤ s.p.t ∧ s.p.t < 18446744073709551616)  : Calls Tryz.prog 207 #[.pointer (some ⟨g, 0, none⟩), .pointer (some ⟨gx, 0, none⟩)] w fun e w' => e = .returned (.int .i64 1) ∧ MX B w0 g gl cap gx c (acc L 2 (bf c (wrap64 (s.p.i - 1))) (Pk.en s.p.g (wrap64 (s.p.b - 1)) 1) 0) (stL L (bf c (wrap64 (s.p.i - 1))) (Pk.en s.p.g (wrap64 (s.p.b - 1)) 1)) { s with p := { s.p with t := (Pk.tk (wrap64 (s.p.i - 1)) s.p.g), i := 0, b := 0 } } w' := by
 have f18 : ∀ s : Wk, (wc s)[18]? = some (.int .i64 s.p.b) := fun _ => rfl
 have f20 : ∀ s : Wk, (wc s)[20]? = some (.int .i64 s.p.i) := fun _ => rfl
 have f27 : ∀ s : Wk, (wc s)[27]? = some (.int .u64 s.p.g) := fun _ => rfl
 have f30 : ∀ s : Wk, (wc s)[30]? = some (.int .u64 s.p.t) := fun _ => rfl
 have HAN := Lib.hid (fun w => Pl.entry c hf (wrap64 (s.p.i - 1)) w)
 have x0 := h.X.cells
 have m0 := h.M.B.cells
 have lx := h.lt
 have lg := h.M.lt.1
 go_enter Tryz.func207, Tryz.ntmps207
 go_wp2
 refine aH 21 ah ah ?_
 simp only [List.take_succ_cons, List.take_zero, List.drop_succ_cons, List.drop_zero]
 have hg := @cK
 repeat (go_big_quiet_step (first | exact grown_of (HAN.out _) | exact bU (Pk.entry _ _ _ _)))
 refine wpQuiet_nil ?_
 rintro w1 ⟨⟨_, hb1⟩, rfl⟩
 clear hg
 have H1 := h.keep hb1
 clear x0 m0 lx lg hb1
 go_wp2_with fail
 refine (iA H1.M hm _ _).mono ?_
 rintro en w2 ⟨rfl, M2, T2⟩
 have H2 := H1.mem M2 T2
 have x2 := H2.X.cells
 have lx2 := H2.lt
 clear H1 M2 T2
 go_wp2
 refine aH 13 ah ah ?_
 simp only [List.take_succ_cons, List.take_zero, List.drop_succ_cons, List.drop_zero]
 have hg := @cK
 repeat (go_big_quiet_step (first | exact bU (Pk.ticket _ _ _)))
 refine wpQuiet_nil ?_
 rintro w3 ⟨⟨_, hb3⟩, rfl⟩
 clear hg
 have H3 := H2.keep hb3
 clear x2 lx2 hb3 H2
 have H4 := H3.set (s' := { s with p := { s.p with t := (Pk.tk (wrap64 (s.p.i - 1)) s.p.g) } }) 30 (.int .u64 (Pk.tk (wrap64 (s.p.i - 1)) s.p.g)) rfl
 have xw3 := H3.X.cells
 have zw3 := H3.X.frozen
 have ew3_30 : (w3.cell? ⟨gx, 30, none⟩).isSome = true := by rw [xw3, f30]; rfl
 have H5 := H4.set (s' := { s with p := { s.p with t := (Pk.tk (wrap64 (s.p.i - 1)) s.p.g), i := 0 } }) 20 (.int .i64 0) rfl
 have y2 : ((w3.setCell ⟨gx, 30, none⟩ (.int .u64 (Pk.tk (wrap64 (s.p.i - 1)) s.p.g))).cell? ⟨gx, 20, none⟩).isSome = true := by rw [H4.X.cells, f20]; rfl
 have H6 := H5.set (s' := { s with p := { s.p with t := (Pk.tk (wrap64 (s.p.i - 1)) s.p.g), i := 0, b := 0 } }) 18 (.int .i64 0) rfl
 have y3 : (((w3.setCell ⟨gx, 30, none⟩ (.int .u64 (Pk.tk (wrap64 (s.p.i - 1)) s.p.g))).setCell ⟨gx, 20, none⟩ (.int .i64 0)).cell? ⟨gx, 18, none⟩).isSome = true := by rw [H5.X.cells, f18]; rfl
 go_wp2
 go_ret
 exact ⟨rfl, H6⟩
theorem enRepl1 {B : Nat} {w0 w : World} {g gl cap gx : Nat} {c : Cfg} {a : Acc} {L : List Int} {s : Wk} (h : MX B w0 g gl cap gx c a L s w) (hm : L.length ≤ 1000) (hL : WR L) (hf : c.Wf) (ht : 0 ≤ s.p.t ∧ s.p.t < 18446744073709551616) (hb : csB L (bf c (s.p.t % 65536 - 1)) s.p.v = true) : Calls Tryz.prog 210 #[.pointer (some ⟨g, 0, none⟩), .pointer (some ⟨gx, 0, none⟩)] w fun e w' => e = .returned (.int .i64 1) ∧ MX B w0 g gl cap gx c (acc L 3 (bf c (s.p.t % 65536 - 1)) s.p.v (Pk.en (s.p.t / 65536) (wrap64 (s.p.b - 1)) 1)) (csL L (bf c (s.p.t % 65536 - 1)) s.p.v (Pk.en (s.p.t / 65536) (wrap64 (s.p.b - 1)) 1)) { s with p := { s.p with b := 0 } } w' := by
 have f0 : ∀ s : Wk, (wc s)[0]? = some (.int .i64 s.p.ln) := fun _ => rfl
 have f18 : ∀ s : Wk, (wc s)[18]? = some (.int .i64 s.p.b) := fun _ => rfl
 have f25 : ∀ s : Wk, (wc s)[25]? = some (.int .u64 s.p.v) := fun _ => rfl
 have f30 : ∀ s : Wk, (wc s)[30]? = some (.int .u64 s.p.t) := fun _ => rfl
 have HUT := Lib.hid (fun w => Pk.eO s.p.t ht.1 ht.2 w)
 have HB := Lib.hid hb
 have HAN := Lib.hid (fun w => Pl.entry c hf (s.p.t % 65536 - 1) w)
 have x0 := h.X.cells
 have m0 := h.M.B.cells
 have lx := h.lt
 have lg := h.M.lt.1
 clear hb
 go_enter Tryz.func210, Tryz.ntmps210
 go_wp2_with fail
 refine (HUT.out _).mono ?_
 rintro en w1 ⟨rfl, rfl⟩
 go_wp2
 refine aH 18 ah ah ?_
 simp only [List.take_succ_cons, List.take_zero, List.drop_succ_cons, List.drop_zero]
 have hg := @cK
 repeat (go_big_quiet_step (first | exact grown_of (HAN.out _) | exact bU (Pk.entry _ _ _ _)))
 refine wpQuiet_nil ?_
 rintro w2 ⟨⟨_, hb2⟩, rfl⟩
 clear hg
 have H2 := h.keep hb2
 have hcas := iw H2.M hm (bf c (s.p.t % 65536 - 1)) s.p.v (Pk.en (s.p.t / 65536) (wrap64 (s.p.b - 1)) 1)
 rw [HB.out] at hcas
 have HCA := Lib.hid hcas
 clear hcas x0 m0 lx lg h hb2
 go_wp2_with fail
 refine HCA.out.mono ?_
 rintro en w3 ⟨rfl, M3, T3⟩
 have H3 := H2.mem M3 T3
 clear H2 M3 T3
 have H4 := H3.set (s' := { s with p := { s.p with b := 0 } }) 18 (.int .i64 0) rfl
 have xw3 := H3.X.cells
 have zw3 := H3.X.frozen
 have ew3_18 : (w3.cell? ⟨gx, 18, none⟩).isSome = true := by rw [xw3, f18]; rfl
 go_wp2
 go_ret
 exact ⟨rfl, H4⟩
theorem enRepl0 {B : Nat} {w0 w : World} {g gl cap gx : Nat} {c : Cfg} {a : Acc} {L : List Int} {s : Wk} (h : MX B w0 g gl cap gx c a L s w) (hm : L.length ≤ 1000) (hL : WR L) (hf : c.Wf) (ht : 0 ≤ s.p.t ∧ s.p.t < 18446744073709551616) (hb : csB L (bf c (s.p.t % 65536 - 1)) s.p.v = false) : Calls Tryz.prog 210 #[.pointer (some ⟨g, 0, none⟩), .pointer (some ⟨gx, 0, none⟩)] w fun e w' => e = .returned (.int .i64 0) ∧ MX B w0 g gl cap gx c (acc L 3 (bf c (s.p.t % 65536 - 1)) s.p.v (Pk.en (s.p.t / 65536) (wrap64 (s.p.b - 1)) 1)) (csL L (bf c (s.p.t % 65536 - 1)) s.p.v (Pk.en (s.p.t / 65536) (wrap64 (s.p.b - 1)) 1)) { s with p := { s.p with ln := 44 } } w' := by
 have f0 : ∀ s : Wk, (wc s)[0]? = some (.int .i64 s.p.ln) := fun _ => rfl
 have f18 : ∀ s : Wk, (wc s)[18]? = some (.int .i64 s.p.b) := fun _ => rfl
 have f25 : ∀ s : Wk, (wc s)[25]? = some (.int .u64 s.p.v) := fun _ => rfl
 have f30 : ∀ s : Wk, (wc s)[30]? = some (.int .u64 s.p.t) := fun _ => rfl
 have HUT := Lib.hid (fun w => Pk.eO s.p.t ht.1 ht.2 w)
 have HB := Lib.hid hb
 have HAN := Lib.hid (fun w => Pl.entry c hf (s.p.t % 65536 - 1) w)
 have x0 := h.X.cells
 have m0 := h.M.B.cells
 have lx := h.lt
 have lg := h.M.lt.1
 clear hb
 go_enter Tryz.func210, Tryz.ntmps210
 go_wp2_with fail
 refine (HUT.out _).mono ?_
 rintro en w1 ⟨rfl, rfl⟩
 go_wp2
 refine aH 18 ah ah ?_
 simp only [List.take_succ_cons, List.take_zero, List.drop_succ_cons, List.drop_zero]
 have hg := @cK
 repeat (go_big_quiet_step (first | exact grown_of (HAN.out _) | exact bU (Pk.entry _ _ _ _)))
 refine wpQuiet_nil ?_
 rintro w2 ⟨⟨_, hb2⟩, rfl⟩
 clear hg
 have H2 := h.keep hb2
 have hcas := iw H2.M hm (bf c (s.p.t % 65536 - 1)) s.p.v (Pk.en (s.p.t / 65536) (wrap64 (s.p.b - 1)) 1)
 rw [HB.out] at hcas
 have HCA := Lib.hid hcas
 clear hcas x0 m0 lx lg h hb2
 go_wp2_with fail
 refine HCA.out.mono ?_
 rintro en w3 ⟨rfl, M3, T3⟩
 have H3 := H2.mem M3 T3
 clear H2 M3 T3
 have H4 := H3.set (s' := { s with p := { s.p with ln := 44 } }) 0 (.int .i64 44) rfl
 exact qaj
theorem enInv11 {B : Nat} {w0 w : World} {g gl cap gx : Nat} {c : Cfg} {a : Acc} {L : List Int} {s : Wk} (h : MX B w0 g gl cap gx c a L s w) (hm : L.length ≤ 1000) (hL : WR L) (hf : c.Wf) (ht : 0 ≤ s.p.t ∧ s.p.t < 18446744073709551616) (hg : c.la ≤ s.p.t / 65536) (hb : csB L (bf c (s.p.t % 65536 - 1)) s.p.v = true) : Calls Tryz.prog 209 #[.pointer (some ⟨g, 0, none⟩), .pointer (some ⟨gx, 0, none⟩)] w fun e w' => e = .returned (.int .i64 1) ∧ MX B w0 g gl cap gx c (acc L 3 (bf c (s.p.t % 65536 - 1)) s.p.v (Pk.en (s.p.t / 65536) (-1) 2)) (csL L (bf c (s.p.t % 65536 - 1)) s.p.v (Pk.en (s.p.t / 65536) (-1) 2)) { s with p := { s.p with i := 0 } } w' := by
 have f0 : ∀ s : Wk, (wc s)[0]? = some (.int .i64 s.p.ln) := fun _ => rfl
 have f20 : ∀ s : Wk, (wc s)[20]? = some (.int .i64 s.p.i) := fun _ => rfl
 have f25 : ∀ s : Wk, (wc s)[25]? = some (.int .u64 s.p.v) := fun _ => rfl
 have f30 : ∀ s : Wk, (wc s)[30]? = some (.int .u64 s.p.t) := fun _ => rfl
 have HUT := Lib.hid (fun w => Pk.eO s.p.t ht.1 ht.2 w)
 have HB := Lib.hid hb
 have HAN := Lib.hid (fun w => Pl.entry c hf (s.p.t % 65536 - 1) w)
 have x0 := h.X.cells
 have m0 := h.M.B.cells
 have lx := h.lt
 have lg := h.M.lt.1
 clear hb
 have tg : decide (c.la ≤ s.p.t / 65536) = true := by simp [hg]
 have HW := Lib.hid (show wrap64 (s.p.t % 65536 - 1 + 1) = s.p.t % 65536 by rw [IntWalk.wrap64_in _ aj]; omega)
 clear hg
 go_enter Tryz.func209, Tryz.ntmps209
 go_wp2_with fail
 refine (HUT.out _).mono ?_
 rintro en w1 ⟨rfl, rfl⟩
 go_wp2_with fail
 refine (Pk.entry _ _ _ _).mono ?_
 rintro en w1 ⟨rfl, rfl⟩
 go_wp2_with fail
 refine (Pk.entry _ _ _ _).mono ?_
 rintro en w1 ⟨rfl, rfl⟩
 go_wp2
 refine aH 12 ah ah ?_
 simp only [List.take_succ_cons, List.take_zero, List.drop_succ_cons, List.drop_zero]
 have hg := @cK
 repeat (go_big_quiet_step (first | exact grown_of (HAN.out _) | exact bU (Pk.entry _ _ _ _)))
 refine wpQuiet_nil ?_
 rintro w2 ⟨⟨_, hb2⟩, rfl⟩
 clear hg
 have H2 := h.keep hb2
 have hcas := iw H2.M hm (bf c (s.p.t % 65536 - 1)) s.p.v (Pk.en (s.p.t / 65536) (-1) 2)
 rw [HB.out] at hcas
 have HCA := Lib.hid hcas
 clear hcas x0 m0 lx lg h hb2
 go_wp2_with fail
 refine HCA.out.mono ?_
 rintro en w3 ⟨rfl, M3, T3⟩
 have H3 := H2.mem M3 T3
 clear H2 M3 T3
 have H4 := H3.set (s' := { s with p := { s.p with i := 0 } }) 20 (.int .i64 0) rfl
 have xw3 := H3.X.cells
 have zw3 := H3.X.frozen
 have ew3_20 : (w3.cell? ⟨gx, 20, none⟩).isSome = true := by rw [xw3, f20]; rfl
 go_wp2
 go_ret
 exact ⟨rfl, H4⟩
theorem enInv10 {B : Nat} {w0 w : World} {g gl cap gx : Nat} {c : Cfg} {a : Acc} {L : List Int} {s : Wk} (h : MX B w0 g gl cap gx c a L s w) (hm : L.length ≤ 1000) (hL : WR L) (hf : c.Wf) (ht : 0 ≤ s.p.t ∧ s.p.t < 18446744073709551616) (hg : c.la ≤ s.p.t / 65536) (hb : csB L (bf c (s.p.t % 65536 - 1)) s.p.v = false) : Calls Tryz.prog 209 #[.pointer (some ⟨g, 0, none⟩), .pointer (some ⟨gx, 0, none⟩)] w fun e w' => e = .returned (.int .i64 0) ∧ MX B w0 g gl cap gx c (acc L 3 (bf c (s.p.t % 65536 - 1)) s.p.v (Pk.en (s.p.t / 65536) (-1) 2)) (csL L (bf c (s.p.t % 65536 - 1)) s.p.v (Pk.en (s.p.t / 65536) (-1) 2)) { s with p := { s.p with ln := 42 } } w' := by
 have f0 : ∀ s : Wk, (wc s)[0]? = some (.int .i64 s.p.ln) := fun _ => rfl
 have f20 : ∀ s : Wk, (wc s)[20]? = some (.int .i64 s.p.i) := fun _ => rfl
 have f25 : ∀ s : Wk, (wc s)[25]? = some (.int .u64 s.p.v) := fun _ => rfl
 have f30 : ∀ s : Wk, (wc s)[30]? = some (.int .u64 s.p.t) := fun _ => rfl
 have HUT := Lib.hid (fun w => Pk.eO s.p.t ht.1 ht.2 w)
 have HB := Lib.hid hb
 have HAN := Lib.hid (fun w => Pl.entry c hf (s.p.t % 65536 - 1) w)
 have x0 := h.X.cells
 have m0 := h.M.B.cells
 have lx := h.lt
 have lg := h.M.lt.1
 clear hb
 have tg : decide (c.la ≤ s.p.t / 65536) = true := by simp [hg]
 have HW := Lib.hid (show wrap64 (s.p.t % 65536 - 1 + 1) = s.p.t % 65536 by rw [IntWalk.wrap64_in _ aj]; omega)
 clear hg
 go_enter Tryz.func209, Tryz.ntmps209
 go_wp2_with fail
 refine (HUT.out _).mono ?_
 rintro en w1 ⟨rfl, rfl⟩
 go_wp2_with fail
 refine (Pk.entry _ _ _ _).mono ?_
 rintro en w1 ⟨rfl, rfl⟩
 go_wp2_with fail
 refine (Pk.entry _ _ _ _).mono ?_
 rintro en w1 ⟨rfl, rfl⟩
 go_wp2
 refine aH 12 ah ah ?_
 simp only [List.take_succ_cons, List.take_zero, List.drop_succ_cons, List.drop_zero]
 have hg := @cK
 repeat (go_big_quiet_step (first | exact grown_of (HAN.out _) | exact bU (Pk.entry _ _ _ _)))
 refine wpQuiet_nil ?_
 rintro w2 ⟨⟨_, hb2⟩, rfl⟩
 clear hg
 have H2 := h.keep hb2
 have hcas := iw H2.M hm (bf c (s.p.t % 65536 - 1)) s.p.v (Pk.en (s.p.t / 65536) (-1) 2)
 exact qak
theorem enInv01 {B : Nat} {w0 w : World} {g gl cap gx : Nat} {c : Cfg} {a : Acc} {L : List Int} {s : Wk} (h : MX B w0 g gl cap gx c a L s w) (hm : L.length ≤ 1000) (hL : WR L) (hf : c.Wf) (ht : 0 ≤ s.p.t ∧ s.p.t < 18446744073709551616) (hg : ¬ c.la ≤ s.p.t / 65536) (hb : csB L (bf c (s.p.t % 65536 - 1)) s.p.v = true) : Calls Tryz.prog 209 #[.pointer (some ⟨g, 0, none⟩), .pointer (some ⟨gx, 0, none⟩)] w fun e w' => e = .returned (.int .i64 1) ∧ MX B w0 g gl cap gx c (acc L 3 (bf c (s.p.t % 65536 - 1)) s.p.v (Pk.en (s.p.t / 65536 + 1) (-1) 0)) (csL L (bf c (s.p.t % 65536 - 1)) s.p.v (Pk.en (s.p.t / 65536 + 1) (-1) 0)) { s with p := { s.p with i := (s.p.t % 65536) } } w' := by
 have f0 : ∀ s : Wk, (wc s)[0]? = some (.int .i64 s.p.ln) := fun _ => rfl
 have f20 : ∀ s : Wk, (wc s)[20]? = some (.int .i64 s.p.i) := fun _ => rfl
 have f25 : ∀ s : Wk, (wc s)[25]? = some (.int .u64 s.p.v) := fun _ => rfl
 have f30 : ∀ s : Wk, (wc s)[30]? = some (.int .u64 s.p.t) := fun _ => rfl
 have HUT := Lib.hid (fun w => Pk.eO s.p.t ht.1 ht.2 w)
 have HB := Lib.hid hb
 have HAN := Lib.hid (fun w => Pl.entry c hf (s.p.t % 65536 - 1) w)
 have x0 := h.X.cells
 have m0 := h.M.B.cells
 have lx := h.lt
 have lg := h.M.lt.1
 clear hb
 have tg : decide (c.la ≤ s.p.t / 65536) = false := bq
 have HW := Lib.hid (show wrap64 (s.p.t % 65536 - 1 + 1) = s.p.t % 65536 by rw [IntWalk.wrap64_in _ aj]; omega)
 clear hg
 go_enter Tryz.func209, Tryz.ntmps209
 go_wp2_with fail
 refine (HUT.out _).mono ?_
 rintro en w1 ⟨rfl, rfl⟩
 go_wp2_with fail
 refine (Pk.entry _ _ _ _).mono ?_
 rintro en w1 ⟨rfl, rfl⟩
 go_wp2
 refine aH 12 ah ah ?_
 simp only [List.take_succ_cons, List.take_zero, List.drop_succ_cons, List.drop_zero]
 have hg := @cK
 repeat (go_big_quiet_step (first | exact grown_of (HAN.out _) | exact bU (Pk.entry _ _ _ _)))
 refine wpQuiet_nil ?_
 rintro w2 ⟨⟨_, hb2⟩, rfl⟩
 clear hg
 have H2 := h.keep hb2
 have hcas := iw H2.M hm (bf c (s.p.t % 65536 - 1)) s.p.v (Pk.en (s.p.t / 65536 + 1) (-1) 0)
 rw [HB.out] at hcas
 have HCA := Lib.hid hcas
 clear hcas x0 m0 lx lg h hb2
 go_wp2_with fail
 refine HCA.out.mono ?_
 rintro en w3 ⟨rfl, M3, T3⟩
 have H3 := H2.mem M3 T3
 clear H2 M3 T3
 have H4 := H3.set (s' := { s with p := { s.p with i := (s.p.t % 65536) } }) 20 (.int .i64 (s.p.t % 65536)) rfl
 have xw3 := H3.X.cells
 have zw3 := H3.X.frozen
 have ew3_20 : (w3.cell? ⟨gx, 20, none⟩).isSome = true := by rw [xw3, f20]; rfl
 try rw [HW.out]
 go_wp2
 go_ret
 exact ⟨rfl, H4⟩
theorem enInv00 {B : Nat} {w0 w : World} {g gl cap gx : Nat} {c : Cfg} {a : Acc} {L : List Int} {s : Wk} (h : MX B w0 g gl cap gx c a L s w) (hm : L.length ≤ 1000) (hL : WR L) (hf : c.Wf) (ht : 0 ≤ s.p.t ∧ s.p.t < 18446744073709551616) (hg : ¬ c.la ≤ s.p.t / 65536) (hb : csB L (bf c (s.p.t % 65536 - 1)) s.p.v = false) : Calls Tryz.prog 209 #[.pointer (some ⟨g, 0, none⟩), .pointer (some ⟨gx, 0, none⟩)] w fun e w' => e = .returned (.int .i64 0) ∧ MX B w0 g gl cap gx c (acc L 3 (bf c (s.p.t % 65536 - 1)) s.p.v (Pk.en (s.p.t / 65536 + 1) (-1) 0)) (csL L (bf c (s.p.t % 65536 - 1)) s.p.v (Pk.en (s.p.t / 65536 + 1) (-1) 0)) { s with p := { s.p with ln := 42 } } w' := by
 have f0 : ∀ s : Wk, (wc s)[0]? = some (.int .i64 s.p.ln) := fun _ => rfl
 have f20 : ∀ s : Wk, (wc s)[20]? = some (.int .i64 s.p.i) := fun _ => rfl
 have f25 : ∀ s : Wk, (wc s)[25]? = some (.int .u64 s.p.v) := fun _ => rfl
 have f30 : ∀ s : Wk, (wc s)[30]? = some (.int .u64 s.p.t) := fun _ => rfl
 have HUT := Lib.hid (fun w => Pk.eO s.p.t ht.1 ht.2 w)
 have HB := Lib.hid hb
 have HAN := Lib.hid (fun w => Pl.entry c hf (s.p.t % 65536 - 1) w)
 have x0 := h.X.cells
 have m0 := h.M.B.cells
 have lx := h.lt
 have lg := h.M.lt.1
 clear hb
 have tg : decide (c.la ≤ s.p.t / 65536) = false := bq
 have HW := Lib.hid (show wrap64 (s.p.t % 65536 - 1 + 1) = s.p.t % 65536 by rw [IntWalk.wrap64_in _ aj]; omega)
 clear hg
 go_enter Tryz.func209, Tryz.ntmps209
 go_wp2_with fail
 refine (HUT.out _).mono ?_
 rintro en w1 ⟨rfl, rfl⟩
 go_wp2_with fail
 refine (Pk.entry _ _ _ _).mono ?_
 rintro en w1 ⟨rfl, rfl⟩
 go_wp2
 refine aH 12 ah ah ?_
 simp only [List.take_succ_cons, List.take_zero, List.drop_succ_cons, List.drop_zero]
 have hg := @cK
 repeat (go_big_quiet_step (first | exact grown_of (HAN.out _) | exact bU (Pk.entry _ _ _ _)))
 refine wpQuiet_nil ?_
 rintro w2 ⟨⟨_, hb2⟩, rfl⟩
 clear hg
 have H2 := h.keep hb2
 have hcas := iw H2.M hm (bf c (s.p.t % 65536 - 1)) s.p.v (Pk.en (s.p.t / 65536 + 1) (-1) 0)
 exact qak
theorem enl41 {B : Nat} {w0 w : World} {g gl cap gx : Nat} {c : Cfg} {a : Acc} {L : List Int} {s : Wk} (h : MX B w0 g gl cap gx c a L s w) (hm : L.length ≤ 1000) (hL : WR L) (hf : c.Wf) (ht : 0 ≤ s.p.t ∧ s.p.t < 18446744073709551616) (hl : s.p.ln = 41)  : Calls Tryz.prog 172 #[.pointer (some ⟨g, 0, none⟩), .pointer (some ⟨gx, 0, none⟩)] w (LP B w0 g gl cap gx c (⟨acc L 2 (bf c (wrap64 (s.p.i - 1))) (Pk.en s.p.g (wrap64 (s.p.b - 1)) 1) 0, stL L (bf c (wrap64 (s.p.i - 1))) (Pk.en s.p.g (wrap64 (s.p.b - 1)) 1), { s.p with t := (Pk.tk (wrap64 (s.p.i - 1)) s.p.g), i := 0, b := 0 }, 1, true⟩) s) := by
 have HC := Lib.hid (enCreate h hm hL hf ht)
 have f0 : ∀ s : Wk, (wc s)[0]? = some (.int .i64 s.p.ln) := fun _ => rfl
 have t20 : (s.p.ln == 20) = false := jB hl
 have t21 : (s.p.ln == 21) = false := jB hl
 have t22 : (s.p.ln == 22) = false := jB hl
 have t23 : (s.p.ln == 23) = false := jB hl
 have t24 : (s.p.ln == 24) = false := jB hl
 have t25 : (s.p.ln == 25) = false := jB hl
 have t40 : (s.p.ln == 40) = false := jB hl
 have t41 : (s.p.ln == 41) = true := jB hl
 exact qa44
theorem enl42y {B : Nat} {w0 w : World} {g gl cap gx : Nat} {c : Cfg} {a : Acc} {L : List Int} {s : Wk} (h : MX B w0 g gl cap gx c a L s w) (hm : L.length ≤ 1000) (hL : WR L) (hf : c.Wf) (ht : 0 ≤ s.p.t ∧ s.p.t < 18446744073709551616) (hl : s.p.ln = 42) (hb : enB (ldV L (bf c (s.p.t % 65536 - 1))) (s.p.t / 65536) = true) : Calls Tryz.prog 172 #[.pointer (some ⟨g, 0, none⟩), .pointer (some ⟨gx, 0, none⟩)] w (LP B w0 g gl cap gx c (⟨acc L 1 (bf c (s.p.t % 65536 - 1)) 0 0, L, { s.p with v := ldV L (bf c (s.p.t % 65536 - 1)), c := ldV L (bf c (s.p.t % 65536 - 1)) / 16 % 65536 }, 1, true⟩) s) := by
 have HC := Lib.hid (enFind1 h hm hL hf ht hb)
 exact qal
theorem enl44y {B : Nat} {w0 w : World} {g gl cap gx : Nat} {c : Cfg} {a : Acc} {L : List Int} {s : Wk} (h : MX B w0 g gl cap gx c a L s w) (hm : L.length ≤ 1000) (hL : WR L) (hf : c.Wf) (ht : 0 ≤ s.p.t ∧ s.p.t < 18446744073709551616) (hl : s.p.ln = 44) (hb : enB (ldV L (bf c (s.p.t % 65536 - 1))) (s.p.t / 65536) = true) : Calls Tryz.prog 172 #[.pointer (some ⟨g, 0, none⟩), .pointer (some ⟨gx, 0, none⟩)] w (LP B w0 g gl cap gx c (⟨acc L 1 (bf c (s.p.t % 65536 - 1)) 0 0, L, { s.p with v := ldV L (bf c (s.p.t % 65536 - 1)), c := ldV L (bf c (s.p.t % 65536 - 1)) / 16 % 65536 }, 1, true⟩) s) := by
 have HC := Lib.hid (enFind1 h hm hL hf ht hb)
 exact qam
theorem enl46y {B : Nat} {w0 w : World} {g gl cap gx : Nat} {c : Cfg} {a : Acc} {L : List Int} {s : Wk} (h : MX B w0 g gl cap gx c a L s w) (hm : L.length ≤ 1000) (hL : WR L) (hf : c.Wf) (ht : 0 ≤ s.p.t ∧ s.p.t < 18446744073709551616) (hl : s.p.ln = 46) (hb : enB (ldV L (bf c (s.p.t % 65536 - 1))) (s.p.t / 65536) = true) : Calls Tryz.prog 172 #[.pointer (some ⟨g, 0, none⟩), .pointer (some ⟨gx, 0, none⟩)] w (LP B w0 g gl cap gx c (⟨acc L 1 (bf c (s.p.t % 65536 - 1)) 0 0, L, { s.p with v := ldV L (bf c (s.p.t % 65536 - 1)), c := ldV L (bf c (s.p.t % 65536 - 1)) / 16 % 65536 }, 1, true⟩) s) := by
 have HC := Lib.hid (enFind1 h hm hL hf ht hb)
 exact qan
theorem enl60y {B : Nat} {w0 w : World} {g gl cap gx : Nat} {c : Cfg} {a : Acc} {L : List Int} {s : Wk} (h : MX B w0 g gl cap gx c a L s w) (hm : L.length ≤ 1000) (hL : WR L) (hf : c.Wf) (ht : 0 ≤ s.p.t ∧ s.p.t < 18446744073709551616) (hl : s.p.ln = 60) (hb : enB (ldV L (bf c (s.p.t % 65536 - 1))) (s.p.t / 65536) = true) : Calls Tryz.prog 172 #[.pointer (some ⟨g, 0, none⟩), .pointer (some ⟨gx, 0, none⟩)] w (LP B w0 g gl cap gx c (⟨acc L 1 (bf c (s.p.t % 65536 - 1)) 0 0, L, { s.p with v := ldV L (bf c (s.p.t % 65536 - 1)), c := ldV L (bf c (s.p.t % 65536 - 1)) / 16 % 65536 }, 1, true⟩) s) := by
 have HC := Lib.hid (enFind1 h hm hL hf ht hb)
 exact qao
theorem enl45y {B : Nat} {w0 w : World} {g gl cap gx : Nat} {c : Cfg} {a : Acc} {L : List Int} {s : Wk} (h : MX B w0 g gl cap gx c a L s w) (hm : L.length ≤ 1000) (hL : WR L) (hf : c.Wf) (ht : 0 ≤ s.p.t ∧ s.p.t < 18446744073709551616) (hl : s.p.ln = 45) (hb : csB L (bf c (s.p.t % 65536 - 1)) s.p.v = true) : Calls Tryz.prog 172 #[.pointer (some ⟨g, 0, none⟩), .pointer (some ⟨gx, 0, none⟩)] w (LP B w0 g gl cap gx c (⟨acc L 3 (bf c (s.p.t % 65536 - 1)) s.p.v (Pk.en (s.p.t / 65536) (wrap64 (s.p.b - 1)) 1), csL L (bf c (s.p.t % 65536 - 1)) s.p.v (Pk.en (s.p.t / 65536) (wrap64 (s.p.b - 1)) 1), { s.p with b := 0 }, 1, true⟩) s) := by
 have HC := Lib.hid (enRepl1 h hm hL hf ht hb)
 exact qap
theorem enl431y {B : Nat} {w0 w : World} {g gl cap gx : Nat} {c : Cfg} {a : Acc} {L : List Int} {s : Wk} (h : MX B w0 g gl cap gx c a L s w) (hm : L.length ≤ 1000) (hL : WR L) (hf : c.Wf) (ht : 0 ≤ s.p.t ∧ s.p.t < 18446744073709551616) (hl : s.p.ln = 43) (hg : c.la ≤ s.p.t / 65536) (hb : csB L (bf c (s.p.t % 65536 - 1)) s.p.v = true) : Calls Tryz.prog 172 #[.pointer (some ⟨g, 0, none⟩), .pointer (some ⟨gx, 0, none⟩)] w (LP B w0 g gl cap gx c (⟨acc L 3 (bf c (s.p.t % 65536 - 1)) s.p.v (Pk.en (s.p.t / 65536) (-1) 2), csL L (bf c (s.p.t % 65536 - 1)) s.p.v (Pk.en (s.p.t / 65536) (-1) 2), { s.p with i := 0 }, 1, true⟩) s) := by
 have HC := Lib.hid (enInv11 h hm hL hf ht hg hb)
 exact qaq
theorem enl430y {B : Nat} {w0 w : World} {g gl cap gx : Nat} {c : Cfg} {a : Acc} {L : List Int} {s : Wk} (h : MX B w0 g gl cap gx c a L s w) (hm : L.length ≤ 1000) (hL : WR L) (hf : c.Wf) (ht : 0 ≤ s.p.t ∧ s.p.t < 18446744073709551616) (hl : s.p.ln = 43) (hg : ¬ c.la ≤ s.p.t / 65536) (hb : csB L (bf c (s.p.t % 65536 - 1)) s.p.v = true) : Calls Tryz.prog 172 #[.pointer (some ⟨g, 0, none⟩), .pointer (some ⟨gx, 0, none⟩)] w (LP B w0 g gl cap gx c (⟨acc L 3 (bf c (s.p.t % 65536 - 1)) s.p.v (Pk.en (s.p.t / 65536 + 1) (-1) 0), csL L (bf c (s.p.t % 65536 - 1)) s.p.v (Pk.en (s.p.t / 65536 + 1) (-1) 0), { s.p with i := s.p.t % 65536 }, 1, true⟩) s) := by
 have HC := Lib.hid (enInv01 h hm hL hf ht hg hb)
 exact qaq
theorem enl42n {B : Nat} {w0 w : World} {g gl cap gx : Nat} {c : Cfg} {a : Acc} {L : List Int} {s : Wk} (h : MX B w0 g gl cap gx c a L s w) (hm : L.length ≤ 1000) (hL : WR L) (hf : c.Wf) (ht : 0 ≤ s.p.t ∧ s.p.t < 18446744073709551616) (hl : s.p.ln = 42) (hb : enB (ldV L (bf c (s.p.t % 65536 - 1))) (s.p.t / 65536) = false) : Calls Tryz.prog 172 #[.pointer (some ⟨g, 0, none⟩), .pointer (some ⟨gx, 0, none⟩)] w (LP B w0 g gl cap gx c (⟨acc L 1 (bf c (s.p.t % 65536 - 1)) 0 0, L, s.p, 2, true⟩) s) := by
 have HC := Lib.hid (enFind0 h hm hL hf ht hb)
 exact qal
theorem enl44n {B : Nat} {w0 w : World} {g gl cap gx : Nat} {c : Cfg} {a : Acc} {L : List Int} {s : Wk} (h : MX B w0 g gl cap gx c a L s w) (hm : L.length ≤ 1000) (hL : WR L) (hf : c.Wf) (ht : 0 ≤ s.p.t ∧ s.p.t < 18446744073709551616) (hl : s.p.ln = 44) (hb : enB (ldV L (bf c (s.p.t % 65536 - 1))) (s.p.t / 65536) = false) : Calls Tryz.prog 172 #[.pointer (some ⟨g, 0, none⟩), .pointer (some ⟨gx, 0, none⟩)] w (LP B w0 g gl cap gx c (⟨acc L 1 (bf c (s.p.t % 65536 - 1)) 0 0, L, s.p, 2, true⟩) s) := by
 have HC := Lib.hid (enFind0 h hm hL hf ht hb)
 exact qam
theorem enl46n {B : Nat} {w0 w : World} {g gl cap gx : Nat} {c : Cfg} {a : Acc} {L : List Int} {s : Wk} (h : MX B w0 g gl cap gx c a L s w) (hm : L.length ≤ 1000) (hL : WR L) (hf : c.Wf) (ht : 0 ≤ s.p.t ∧ s.p.t < 18446744073709551616) (hl : s.p.ln = 46) (hb : enB (ldV L (bf c (s.p.t % 65536 - 1))) (s.p.t / 65536) = false) : Calls Tryz.prog 172 #[.pointer (some ⟨g, 0, none⟩), .pointer (some ⟨gx, 0, none⟩)] w (LP B w0 g gl cap gx c (⟨acc L 1 (bf c (s.p.t % 65536 - 1)) 0 0, L, s.p, 2, true⟩) s) := by
 have HC := Lib.hid (enFind0 h hm hL hf ht hb)
 exact qan
theorem enl60n {B : Nat} {w0 w : World} {g gl cap gx : Nat} {c : Cfg} {a : Acc} {L : List Int} {s : Wk} (h : MX B w0 g gl cap gx c a L s w) (hm : L.length ≤ 1000) (hL : WR L) (hf : c.Wf) (ht : 0 ≤ s.p.t ∧ s.p.t < 18446744073709551616) (hl : s.p.ln = 60) (hb : enB (ldV L (bf c (s.p.t % 65536 - 1))) (s.p.t / 65536) = false) : Calls Tryz.prog 172 #[.pointer (some ⟨g, 0, none⟩), .pointer (some ⟨gx, 0, none⟩)] w (LP B w0 g gl cap gx c (⟨acc L 1 (bf c (s.p.t % 65536 - 1)) 0 0, L, s.p, 2, true⟩) s) := by
 have HC := Lib.hid (enFind0 h hm hL hf ht hb)
 exact qao
theorem enl45n {B : Nat} {w0 w : World} {g gl cap gx : Nat} {c : Cfg} {a : Acc} {L : List Int} {s : Wk} (h : MX B w0 g gl cap gx c a L s w) (hm : L.length ≤ 1000) (hL : WR L) (hf : c.Wf) (ht : 0 ≤ s.p.t ∧ s.p.t < 18446744073709551616) (hl : s.p.ln = 45) (hb : csB L (bf c (s.p.t % 65536 - 1)) s.p.v = false) : Calls Tryz.prog 172 #[.pointer (some ⟨g, 0, none⟩), .pointer (some ⟨gx, 0, none⟩)] w (LP B w0 g gl cap gx c (⟨acc L 3 (bf c (s.p.t % 65536 - 1)) s.p.v (Pk.en (s.p.t / 65536) (wrap64 (s.p.b - 1)) 1), csL L (bf c (s.p.t % 65536 - 1)) s.p.v (Pk.en (s.p.t / 65536) (wrap64 (s.p.b - 1)) 1), { s.p with ln := 44 }, 0, true⟩) s) := by
 have HC := Lib.hid (enRepl0 h hm hL hf ht hb)
 exact qap
theorem enl431n {B : Nat} {w0 w : World} {g gl cap gx : Nat} {c : Cfg} {a : Acc} {L : List Int} {s : Wk} (h : MX B w0 g gl cap gx c a L s w) (hm : L.length ≤ 1000) (hL : WR L) (hf : c.Wf) (ht : 0 ≤ s.p.t ∧ s.p.t < 18446744073709551616) (hl : s.p.ln = 43) (hg : c.la ≤ s.p.t / 65536) (hb : csB L (bf c (s.p.t % 65536 - 1)) s.p.v = false) : Calls Tryz.prog 172 #[.pointer (some ⟨g, 0, none⟩), .pointer (some ⟨gx, 0, none⟩)] w (LP B w0 g gl cap gx c (⟨acc L 3 (bf c (s.p.t % 65536 - 1)) s.p.v (Pk.en (s.p.t / 65536) (-1) 2), csL L (bf c (s.p.t % 65536 - 1)) s.p.v (Pk.en (s.p.t / 65536) (-1) 2), { s.p with ln := 42 }, 0, true⟩) s) := by
 have HC := Lib.hid (enInv10 h hm hL hf ht hg hb)
 exact qaq
theorem enl430n {B : Nat} {w0 w : World} {g gl cap gx : Nat} {c : Cfg} {a : Acc} {L : List Int} {s : Wk} (h : MX B w0 g gl cap gx c a L s w) (hm : L.length ≤ 1000) (hL : WR L) (hf : c.Wf) (ht : 0 ≤ s.p.t ∧ s.p.t < 18446744073709551616) (hl : s.p.ln = 43) (hg : ¬ c.la ≤ s.p.t / 65536) (hb : csB L (bf c (s.p.t % 65536 - 1)) s.p.v = false) : Calls Tryz.prog 172 #[.pointer (some ⟨g, 0, none⟩), .pointer (some ⟨gx, 0, none⟩)] w (LP B w0 g gl cap gx c (⟨acc L 3 (bf c (s.p.t % 65536 - 1)) s.p.v (Pk.en (s.p.t / 65536 + 1) (-1) 0), csL L (bf c (s.p.t % 65536 - 1)) s.p.v (Pk.en (s.p.t / 65536 + 1) (-1) 0), { s.p with ln := 42 }, 0, true⟩) s) := by
 have HC := Lib.hid (enInv00 h hm hL hf ht hg hb)
 exact qaq
theorem enl40 {B : Nat} {w0 w : World} {g gl cap gx : Nat} {c : Cfg} {a : Acc} {L : List Int} {s : Wk} (h : MX B w0 g gl cap gx c a L s w) (hm : L.length ≤ 1000) (hL : WR L) (hf : c.Wf) (ht : 0 ≤ s.p.t ∧ s.p.t < 18446744073709551616) (hl : s.p.ln = 40) : Calls Tryz.prog 172 #[.pointer (some ⟨g, 0, none⟩), .pointer (some ⟨gx, 0, none⟩)] w (LP B w0 g gl cap gx c (⟨acc L 1 (bf c (wrap64 (s.p.i - 1))) 0 0, L, { s.p with g := ldV L (bf c (wrap64 (s.p.i - 1))) / 1048576, ln := 41 }, 0, true⟩) s) := by
 have hv := dP hL (bf c (wrap64 (s.p.i - 1)))
 have HAN := Lib.hid (fun w => Pl.entry c hf (wrap64 (s.p.i - 1)) w)
 have f0 : ∀ s : Wk, (wc s)[0]? = some (.int .i64 s.p.ln) := fun _ => rfl
 have f20 : ∀ s : Wk, (wc s)[20]? = some (.int .i64 s.p.i) := fun _ => rfl
 have f27 : ∀ s : Wk, (wc s)[27]? = some (.int .u64 s.p.g) := fun _ => rfl
 have t20 : (s.p.ln == 20) = false := jB hl
 have t21 : (s.p.ln == 21) = false := jB hl
 have t22 : (s.p.ln == 22) = false := jB hl
 have t23 : (s.p.ln == 23) = false := jB hl
 have t24 : (s.p.ln == 24) = false := jB hl
 have t25 : (s.p.ln == 25) = false := jB hl
 have t40 : (s.p.ln == 40) = true := jB hl
 have x0 := h.X.cells
 clear hl
 go_enter Tryz.func172, Tryz.ntmps172
 go_wp2
 have hS0 : ∃ a' q, MX B w0 g gl cap gx c a' L { s with p := { s.p with g := q } } w.drew := ⟨a, s.p.g, h.keep (Below.drew (Below.refl _ _))⟩
 refine wp_region_held_drew (S := fun w' => ∃ a' q, MX B w0 g gl cap gx c a' L { s with p := { s.p with g := q } } w') ah hS0 (fun hHeld => ?_)
 clear h hS0 x0
 generalize w.drew = vv at *
 refine jT 0 (.pointer (some ⟨gx, 0, none⟩)) rfl hHeld ?_
 try simp only [Act.put, jP]
 refine jT 1 (.pointer (some ⟨g, 0, none⟩)) rfl hHeld ?_
 try simp only [Act.put, jP]
 refine jT 2 (.pointer (some ⟨g, 0, none⟩)) rfl hHeld ?_
 try simp only [Act.put, jP]
 refine jT 3 (.pointer (some ⟨g, 0, none⟩)) rfl hHeld ?_
 try simp only [Act.put, jP]
 refine jT 4 (.pointer (some ⟨g, 0, none⟩)) rfl hHeld ?_
 try simp only [Act.put, jP]
 refine jY 5 (cv c) rfl (Or.inl ⟨by rfl, fun w' hSw => by obtain ⟨a', q, HS⟩ := hSw; have xx := HS.M.B.cells; go_simp⟩) hHeld ?_
 try simp only [Act.put, jP]
 refine jT 6 (.pointer (some ⟨gx, 0, none⟩)) rfl hHeld ?_
 try simp only [Act.put, jP]
 refine jT 7 (.pointer (some ⟨gx, 0, none⟩)) rfl hHeld ?_
 try simp only [Act.put, jP]
 refine jT 8 (.pointer (some ⟨gx, 20, none⟩)) rfl hHeld ?_
 try simp only [Act.put, jP]
 refine jY 9 (.int .i64 s.p.i) rfl (Or.inl ⟨by rfl, fun w' hSw => by obtain ⟨a', q, HS⟩ := hSw; have xx := HS.X.cells; go_simp⟩) hHeld ?_
 try simp only [Act.put, jP]
 refine jY 10 (.int .i64 (wrap64 (s.p.i - 1))) rfl (Or.inl ⟨by rfl, fun w' hSw => by go_simp; exact IntWalk.i64_left _⟩) hHeld ?_
 try simp only [Act.put, jP]
 refine jR [11] ?_
 refine jC rfl (fun K hK => ?_) jN
 go_simp
 refine (HAN.out _).mono ?_
 rintro en z1 ⟨rfl, hb⟩
 obtain ⟨a1, q1, H1⟩ := hHeld
 refine hK.out _ _ ⟨a1, q1, H1.keep hb⟩ (fun hHeld => ?_)
 clear hK K H1 hb
 try simp only [Act.put, jP]
 refine jR [12] ?_
 refine jC rfl (fun K hK => ?_) jN
 go_simp
 obtain ⟨a1, q1, H1⟩ := hHeld
 refine (bF H1.M hm _).mono ?_
 rintro en z2 ⟨rfl, M2, T2⟩
 have H2 := H1.mem M2 T2
 refine hK.out _ _ ⟨_, q1, H2⟩ (fun hHeld => ?_)
 clear hK K H1 M2 T2
 obtain ⟨lj, hlj⟩ : ∃ v, v = ldV L (bf c (wrap64 (s.p.i - 1))) := ⟨_, rfl⟩
 simp only [← hlj]
 rw [← hlj] at hv
 have HV := Lib.hid hlj
 clear hlj
 try simp only [Act.put, jP]
 refine jR [13] ?_
 refine jC rfl (fun K hK => ?_) jN
 go_simp
 refine (Pk.unentry lj hv.1 hv.2 _).mono ?_
 rintro en w3 ⟨rfl, rfl⟩
 refine hK.out _ _ hHeld (fun hHeld => ?_)
 clear hK K
 try simp only [Act.put, jP]
 refine jT 14 (.tuple #[.int .u64 (lj / 1048576), .int .i64 (lj / 16 % 65536 - 1), .int .i64 (lj % 16)]) rfl hHeld ?_
 try simp only [Act.put, jP]
 refine jT 15 (.int .u64 (lj / 1048576)) rfl hHeld ?_
 try simp only [Act.put, jP]
 refine jT 16 (.int .i64 (lj / 16 % 65536 - 1)) rfl hHeld ?_
 try simp only [Act.put, jP]
 refine jT 17 (.int .i64 (lj % 16)) rfl hHeld ?_
 try simp only [Act.put, jP]
 refine jT 18 (.pointer (some ⟨gx, 0, none⟩)) rfl hHeld ?_
 try simp only [Act.put, jP]
 refine jT 19 (.pointer (some ⟨gx, 27, none⟩)) rfl hHeld ?_
 try simp only [Act.put, jP]
 refine jR [20] ?_
 refine jC rfl (fun K hK => ?_) jN
 have x2 := H2.X.cells
 have z2f := H2.X.frozen
 have e27 : (z2.cell? ⟨gx, 27, none⟩).isSome = true := by rw [x2, f27]; rfl
 have H3 := H2.set (s' := { s with p := { s.p with g := lj / 1048576 } }) 27 (.int .u64 (lj / 1048576)) rfl
 go_simp
 refine hK.out _ _ ⟨_, lj / 1048576, H3⟩ (fun hHeld => ?_)
 clear hK K H2 x2 z2f e27
 try simp only [Act.put, jP]
 refine wpAnyH_done ah ?_ _
 clear hHeld
 obtain ⟨z3, hz3⟩ : ∃ u, u = z2.setCell ⟨gx, 27, none⟩ (.int .u64 (lj / 1048576)) := ⟨_, rfl⟩
 rw [← hz3] at H3 ⊢
 clear hz3 hv
 have H4 := H3.set (s' := { s with p := { s.p with g := lj / 1048576, ln := 41 } }) 0 (.int .i64 41) rfl
 have xz3 := H3.X.cells
 have zz3 := H3.X.frozen
 have ez3_0 : (z3.cell? ⟨gx, 0, none⟩).isSome = true := by rw [xz3, f0]; rfl
 go_wp2
 go_ret2
 have e1 := HV.out
 subst e1
 exact ⟨rfl, H4⟩
end Go.Proofs.YtaiodbcnbcdokaaGreat.Me
