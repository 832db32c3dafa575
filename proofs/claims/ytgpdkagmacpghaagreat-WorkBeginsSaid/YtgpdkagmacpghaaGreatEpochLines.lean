/- The lines of layer 7, for every state and every word (made by genep.py). -/
import Derived.Test.YtgpdkagmacpghaaGreatEpochFn
import Derived.Test.YtgpdkagmacpghaaGreatStepEpoch
namespace Go.Proofs.YtgpdkagmacpghaaGreat.Me
open Go Go.RowKit Go.Proofs.YtgpdkagmacpghaaGreat.Gro Go.Proofs.YtgpdkagmacpghaaGreat.Own Go.Proofs.YtgpdkagmacpghaaGreat.Wd Go.Proofs.YtgpdkagmacpghaaGreat.Ap Go.Proofs.YtgpdkagmacpghaaGreat.Pl Go.Proofs.YtgpdkagmacpghaaGreat.Wo
set_option linter.unusedVariables false
set_option linter.unusedSimpArgs false
set_option maxRecDepth 10000 in
set_option maxHeartbeats 4000000 in
theorem epl1 {B : Nat} {w0 w : World} {g gl cap gx : Nat} {c : Cfg} {a : Acc} {L : List Int} {s : Wk} (h : MX B w0 g gl cap gx c a L s w) (hm : L.length ≤ 1000) (hL : WR L) (hf : c.Wf) (wk : Int) (hl : s.p.ln = 1) : Calls Tryz.prog 152 #[.pointer (some ⟨g, 0, none⟩), .int .i64 wk, .pointer (some ⟨gx, 0, none⟩)] w (LP B w0 g gl cap gx c ⟨acc L 1 0 0 0, L, { s.p with ep := ldV L 0, ln := 2 }, 0, true⟩ s) := by
  have f0 : ∀ s : Wk, (wc s)[0]? = some (.int .i64 s.p.ln) := fun _ => rfl
  have f9 : ∀ s : Wk, (wc s)[9]? = some (.int .u64 s.p.ep) := fun _ => rfl
  have t1 : (s.p.ln == 1) = true := by simp [hl]
  have x0 := h.X.cells
  clear hl
  go_enter Tryz.func152, Tryz.ntmps152
  go_wp2_with fail
  refine (load_any h.M hm 0).mono ?_
  rintro en w1 ⟨rfl, M1, T1⟩
  have H1 := h.mem M1 T1
  obtain ⟨v0, hv0⟩ : ∃ v, v = ldV L 0 := ⟨_, rfl⟩
  simp only [← hv0]
  have HV := Lib.hid hv0
  clear hv0 x0 M1 T1
  have H2 := H1.set (s' := { s with p := { s.p with ep := v0 } }) 9 (.int .u64 v0) rfl
  have xw1 := H1.X.cells
  have zw1 := H1.X.frozen
  have ew1_9 : (w1.cell? ⟨gx, 9, none⟩).isSome = true := by rw [xw1, f9]; rfl
  have H3 := H2.set (s' := { s with p := { s.p with ep := v0, ln := 2 } }) 0 (.int .i64 2) rfl
  have y2 : ((w1.setCell ⟨gx, 9, none⟩ (.int .u64 v0)).cell? ⟨gx, 0, none⟩).isSome = true := by rw [H2.X.cells, f0]; rfl
  go_wp2
  go_ret2
  have e1 := HV.out
  subst e1
  exact ⟨rfl, H3⟩
set_option maxRecDepth 10000 in
set_option maxHeartbeats 4000000 in
theorem epl2 {B : Nat} {w0 w : World} {g gl cap gx : Nat} {c : Cfg} {a : Acc} {L : List Int} {s : Wk} (h : MX B w0 g gl cap gx c a L s w) (hm : L.length ≤ 1000) (hL : WR L) (hf : c.Wf) (wk : Int) (hl : s.p.ln = 2) : Calls Tryz.prog 152 #[.pointer (some ⟨g, 0, none⟩), .int .i64 wk, .pointer (some ⟨gx, 0, none⟩)] w (LP B w0 g gl cap gx c ⟨acc L 2 (aAnn c wk) (Pk.an s.p.ep true) 0, stL L (aAnn c wk) (Pk.an s.p.ep true), { s.p with ln := 3 }, 0, true⟩ s) := by
  have HAN := Lib.hid (fun w => Pl.announce c hf wk w)
  have f0 : ∀ s : Wk, (wc s)[0]? = some (.int .i64 s.p.ln) := fun _ => rfl
  have f9 : ∀ s : Wk, (wc s)[9]? = some (.int .u64 s.p.ep) := fun _ => rfl
  have t1 : (s.p.ln == 1) = false := by simp [hl]
  have t2 : (s.p.ln == 2) = true := by simp [hl]
  have x0 := h.X.cells
  clear hl
  go_enter Tryz.func152, Tryz.ntmps152
  have m0 := h.M.B.cells
  have lx := h.lt
  have lg := h.M.lt.1
  go_wp2
  refine wp_region_grown_tail 12 (by kernel_rfl) (by kernel_rfl) ?_
  simp only [List.take_succ_cons, List.take_zero, List.drop_succ_cons, List.drop_zero]
  have hg := @gcell
  repeat (go_big_quiet_step (first | exact grown_of (HAN.out _) | exact grown_same (Pk.announce _ _ _)))
  refine wpQuiet_nil ?_
  rintro w1 ⟨⟨_, hb1⟩, rfl⟩
  clear hg
  have H1 := h.keep hb1
  clear x0 m0 lx lg hb1
  go_wp2_with fail
  refine (store_any H1.M hm _ _).mono ?_
  rintro en w2 ⟨rfl, M2, T2⟩
  have H2 := H1.mem M2 T2
  clear H1 M2 T2
  have H3 := H2.set (s' := { s with p := { s.p with ln := 3 } }) 0 (.int .i64 3) rfl
  have xw2 := H2.X.cells
  have zw2 := H2.X.frozen
  have ew2_0 : (w2.cell? ⟨gx, 0, none⟩).isSome = true := by rw [xw2, f0]; rfl
  go_wp2
  go_ret2
  exact ⟨rfl, H3⟩
set_option maxRecDepth 10000 in
set_option maxHeartbeats 4000000 in
theorem epl90 {B : Nat} {w0 w : World} {g gl cap gx : Nat} {c : Cfg} {a : Acc} {L : List Int} {s : Wk} (h : MX B w0 g gl cap gx c a L s w) (hm : L.length ≤ 1000) (hL : WR L) (hf : c.Wf) (wk : Int) (hl : s.p.ln = 90) : Calls Tryz.prog 152 #[.pointer (some ⟨g, 0, none⟩), .int .i64 wk, .pointer (some ⟨gx, 0, none⟩)] w (LP B w0 g gl cap gx c ⟨acc L 2 (aAnn c wk) (Pk.an s.p.ep false) 0, stL L (aAnn c wk) (Pk.an s.p.ep false), s.p, 1, true⟩ s) := by
  have HAN := Lib.hid (fun w => Pl.announce c hf wk w)
  have f0 : ∀ s : Wk, (wc s)[0]? = some (.int .i64 s.p.ln) := fun _ => rfl
  have f9 : ∀ s : Wk, (wc s)[9]? = some (.int .u64 s.p.ep) := fun _ => rfl
  have t1 : (s.p.ln == 1) = false := by simp [hl]
  have t2 : (s.p.ln == 2) = false := by simp [hl]
  have t3 : (s.p.ln == 3) = false := by simp [hl]
  have t90 : (s.p.ln == 90) = true := by simp [hl]
  have x0 := h.X.cells
  clear hl
  go_enter Tryz.func152, Tryz.ntmps152
  have m0 := h.M.B.cells
  have lx := h.lt
  have lg := h.M.lt.1
  go_wp2
  refine wp_region_grown_tail 12 (by kernel_rfl) (by kernel_rfl) ?_
  simp only [List.take_succ_cons, List.take_zero, List.drop_succ_cons, List.drop_zero]
  have hg := @gcell
  repeat (go_big_quiet_step (first | exact grown_of (HAN.out _) | exact grown_same (Pk.announce _ _ _)))
  refine wpQuiet_nil ?_
  rintro w1 ⟨⟨_, hb1⟩, rfl⟩
  clear hg
  have H1 := h.keep hb1
  clear x0 m0 lx lg hb1
  go_wp2_with fail
  refine (store_any H1.M hm _ _).mono ?_
  rintro en w2 ⟨rfl, M2, T2⟩
  have H2 := H1.mem M2 T2
  clear H1 M2 T2
  go_wp2
  go_ret2
  exact ⟨rfl, H2⟩
set_option maxRecDepth 10000 in
set_option maxHeartbeats 4000000 in
theorem epConf1 {B : Nat} {w0 w : World} {g gl cap gx : Nat} {c : Cfg} {a : Acc} {L : List Int} {s : Wk} (h : MX B w0 g gl cap gx c a L s w) (hm : L.length ≤ 1000) (hL : WR L) (hf : c.Wf) (he : ldV L 0 = s.p.ep) : Calls Tryz.prog 176 #[.pointer (some ⟨g, 0, none⟩), .pointer (some ⟨gx, 0, none⟩)] w fun e w' => e = .returned (.int .i64 1) ∧ MX B w0 g gl cap gx c (acc L 1 0 0 0) L s w' := by
  have f9 : ∀ s : Wk, (wc s)[9]? = some (.int .u64 s.p.ep) := fun _ => rfl
  have f0 : ∀ s : Wk, (wc s)[0]? = some (.int .i64 s.p.ln) := fun _ => rfl
  have HE := Lib.hid he
  clear he
  have x0 := h.X.cells
  go_enter Tryz.func176, Tryz.ntmps176
  go_wp2_with fail
  refine (load_any h.M hm 0).mono ?_
  rintro en w1 ⟨rfl, M1, T1⟩
  have H1 := h.mem M1 T1
  obtain ⟨v0, hv0⟩ : ∃ v, v = ldV L 0 := ⟨_, rfl⟩
  simp only [← hv0]
  rw [← hv0] at HE
  have HV := Lib.hid hv0
  clear hv0 x0 M1 T1
  have te : (v0 == s.p.ep) = true := by have := HE.out; simp [this]
  have xw1 := H1.X.cells
  go_wp2
  go_ret
  have e1 := HV.out
  subst e1
  exact ⟨rfl, H1⟩
set_option maxRecDepth 10000 in
set_option maxHeartbeats 4000000 in
theorem epl3y {B : Nat} {w0 w : World} {g gl cap gx : Nat} {c : Cfg} {a : Acc} {L : List Int} {s : Wk} (h : MX B w0 g gl cap gx c a L s w) (hm : L.length ≤ 1000) (hL : WR L) (hf : c.Wf) (wk : Int) (hl : s.p.ln = 3) (he : ldV L 0 = s.p.ep) : Calls Tryz.prog 152 #[.pointer (some ⟨g, 0, none⟩), .int .i64 wk, .pointer (some ⟨gx, 0, none⟩)] w (LP B w0 g gl cap gx c ⟨acc L 1 0 0 0, L, s.p, 1, true⟩ s) := by
  have HC := Lib.hid (epConf1 h hm hL hf he)
  clear he
  have f0 : ∀ s : Wk, (wc s)[0]? = some (.int .i64 s.p.ln) := fun _ => rfl
  have f9 : ∀ s : Wk, (wc s)[9]? = some (.int .u64 s.p.ep) := fun _ => rfl
  have t1 : (s.p.ln == 1) = false := by simp [hl]
  have t2 : (s.p.ln == 2) = false := by simp [hl]
  have t3 : (s.p.ln == 3) = true := by simp [hl]
  have x0 := h.X.cells
  clear hl
  go_enter Tryz.func152, Tryz.ntmps152
  go_wp2_with fail
  refine HC.out.mono ?_
  rintro en w1 ⟨rfl, H1⟩
  go_wp2
  go_ret2
  exact ⟨rfl, H1⟩
set_option maxRecDepth 10000 in
set_option maxHeartbeats 4000000 in
theorem epConf0 {B : Nat} {w0 w : World} {g gl cap gx : Nat} {c : Cfg} {a : Acc} {L : List Int} {s : Wk} (h : MX B w0 g gl cap gx c a L s w) (hm : L.length ≤ 1000) (hL : WR L) (hf : c.Wf) (he : ldV L 0 ≠ s.p.ep) : Calls Tryz.prog 176 #[.pointer (some ⟨g, 0, none⟩), .pointer (some ⟨gx, 0, none⟩)] w fun e w' => e = .returned (.int .i64 0) ∧ MX B w0 g gl cap gx c (acc L 1 0 0 0) L { s with p := { s.p with ep := ldV L 0, ln := 2 } } w' := by
  have f9 : ∀ s : Wk, (wc s)[9]? = some (.int .u64 s.p.ep) := fun _ => rfl
  have f0 : ∀ s : Wk, (wc s)[0]? = some (.int .i64 s.p.ln) := fun _ => rfl
  have HE := Lib.hid he
  clear he
  have x0 := h.X.cells
  go_enter Tryz.func176, Tryz.ntmps176
  go_wp2_with fail
  refine (load_any h.M hm 0).mono ?_
  rintro en w1 ⟨rfl, M1, T1⟩
  have H1 := h.mem M1 T1
  obtain ⟨v0, hv0⟩ : ∃ v, v = ldV L 0 := ⟨_, rfl⟩
  simp only [← hv0]
  rw [← hv0] at HE
  have HV := Lib.hid hv0
  clear hv0 x0 M1 T1
  have te : (v0 == s.p.ep) = false := by have := HE.out; simp [this]
  have H2 := H1.set (s' := { s with p := { s.p with ep := v0 } }) 9 (.int .u64 v0) rfl
  have xw1 := H1.X.cells
  have zw1 := H1.X.frozen
  have ew1_9 : (w1.cell? ⟨gx, 9, none⟩).isSome = true := by rw [xw1, f9]; rfl
  have H3 := H2.set (s' := { s with p := { s.p with ep := v0, ln := 2 } }) 0 (.int .i64 2) rfl
  have y2 : ((w1.setCell ⟨gx, 9, none⟩ (.int .u64 v0)).cell? ⟨gx, 0, none⟩).isSome = true := by rw [H2.X.cells, f0]; rfl
  go_wp2
  go_ret
  have e1 := HV.out
  subst e1
  exact ⟨rfl, H3⟩
set_option maxRecDepth 10000 in
set_option maxHeartbeats 4000000 in
theorem epl3n {B : Nat} {w0 w : World} {g gl cap gx : Nat} {c : Cfg} {a : Acc} {L : List Int} {s : Wk} (h : MX B w0 g gl cap gx c a L s w) (hm : L.length ≤ 1000) (hL : WR L) (hf : c.Wf) (wk : Int) (hl : s.p.ln = 3) (he : ldV L 0 ≠ s.p.ep) : Calls Tryz.prog 152 #[.pointer (some ⟨g, 0, none⟩), .int .i64 wk, .pointer (some ⟨gx, 0, none⟩)] w (LP B w0 g gl cap gx c ⟨acc L 1 0 0 0, L, { s.p with ep := ldV L 0, ln := 2 }, 0, true⟩ s) := by
  have HC := Lib.hid (epConf0 h hm hL hf he)
  clear he
  have f0 : ∀ s : Wk, (wc s)[0]? = some (.int .i64 s.p.ln) := fun _ => rfl
  have f9 : ∀ s : Wk, (wc s)[9]? = some (.int .u64 s.p.ep) := fun _ => rfl
  have t1 : (s.p.ln == 1) = false := by simp [hl]
  have t2 : (s.p.ln == 2) = false := by simp [hl]
  have t3 : (s.p.ln == 3) = true := by simp [hl]
  have x0 := h.X.cells
  clear hl
  go_enter Tryz.func152, Tryz.ntmps152
  go_wp2_with fail
  refine HC.out.mono ?_
  rintro en w1 ⟨rfl, H1⟩
  go_wp2
  go_ret2
  exact ⟨rfl, H1⟩
set_option maxRecDepth 10000 in
set_option maxHeartbeats 4000000 in
theorem epl70 {B : Nat} {w0 w : World} {g gl cap gx : Nat} {c : Cfg} {a : Acc} {L : List Int} {s : Wk} (h : MX B w0 g gl cap gx c a L s w) (hm : L.length ≤ 1000) (hL : WR L) (hf : c.Wf) (wk : Int) (hl : s.p.ln = 70) : Calls Tryz.prog 152 #[.pointer (some ⟨g, 0, none⟩), .int .i64 wk, .pointer (some ⟨gx, 0, none⟩)] w (LP B w0 g gl cap gx c ⟨acc L 1 0 0 0, L, { s.p with v := ldV L 0, j := 0, ln := 71 }, 0, true⟩ s) := by
  have f0 : ∀ s : Wk, (wc s)[0]? = some (.int .i64 s.p.ln) := fun _ => rfl
  have f25 : ∀ s : Wk, (wc s)[25]? = some (.int .u64 s.p.v) := fun _ => rfl
  have f28 : ∀ s : Wk, (wc s)[28]? = some (.int .i64 s.p.j) := fun _ => rfl
  have t1 : (s.p.ln == 1) = false := by simp [hl]
  have t2 : (s.p.ln == 2) = false := by simp [hl]
  have t3 : (s.p.ln == 3) = false := by simp [hl]
  have t90 : (s.p.ln == 90) = false := by simp [hl]
  have t70 : (s.p.ln == 70) = true := by simp [hl]
  have x0 := h.X.cells
  clear hl
  go_enter Tryz.func152, Tryz.ntmps152
  go_wp2_with fail
  refine (load_any h.M hm 0).mono ?_
  rintro en w1 ⟨rfl, M1, T1⟩
  have H1 := h.mem M1 T1
  obtain ⟨v0, hv0⟩ : ∃ v, v = ldV L 0 := ⟨_, rfl⟩
  simp only [← hv0]
  have HV := Lib.hid hv0
  clear hv0 x0 M1 T1
  have H2 := H1.set (s' := { s with p := { s.p with v := v0 } }) 25 (.int .u64 v0) rfl
  have xw1 := H1.X.cells
  have zw1 := H1.X.frozen
  have ew1_25 : (w1.cell? ⟨gx, 25, none⟩).isSome = true := by rw [xw1, f25]; rfl
  have H3 := H2.set (s' := { s with p := { s.p with v := v0, j := 0 } }) 28 (.int .i64 0) rfl
  have y2 : ((w1.setCell ⟨gx, 25, none⟩ (.int .u64 v0)).cell? ⟨gx, 28, none⟩).isSome = true := by rw [H2.X.cells, f28]; rfl
  have H4 := H3.set (s' := { s with p := { s.p with v := v0, j := 0, ln := 71 } }) 0 (.int .i64 71) rfl
  have y3 : (((w1.setCell ⟨gx, 25, none⟩ (.int .u64 v0)).setCell ⟨gx, 28, none⟩ (.int .i64 0)).cell? ⟨gx, 0, none⟩).isSome = true := by rw [H3.X.cells, f0]; rfl
  go_wp2
  go_ret2
  have e1 := HV.out
  subst e1
  exact ⟨rfl, H4⟩
set_option maxRecDepth 10000 in
set_option maxHeartbeats 4000000 in
theorem epAska {B : Nat} {w0 w : World} {g gl cap gx : Nat} {c : Cfg} {a : Acc} {L : List Int} {s : Wk} (h : MX B w0 g gl cap gx c a L s w) (hm : L.length ≤ 1000) (hL : WR L) (hf : c.Wf) (ho : epOther (ldV L (aAnn c s.p.j)) s.p.v = true) : Calls Tryz.prog 177 #[.pointer (some ⟨g, 0, none⟩), .pointer (some ⟨gx, 0, none⟩)] w fun e w' => e = .returned (.int .i64 2) ∧ MX B w0 g gl cap gx c (acc L 1 (aAnn c s.p.j) 0 0) L s w' := by
  have f0 : ∀ s : Wk, (wc s)[0]? = some (.int .i64 s.p.ln) := fun _ => rfl
  have f25 : ∀ s : Wk, (wc s)[25]? = some (.int .u64 s.p.v) := fun _ => rfl
  have f28 : ∀ s : Wk, (wc s)[28]? = some (.int .i64 s.p.j) := fun _ => rfl
  have HO := Lib.hid ho
  have hv := ldV_wr hL (aAnn c s.p.j)
  have HAN := Lib.hid (fun w => Pl.announce c hf s.p.j w)
  clear ho
  have x0 := h.X.cells
  have m0 := h.M.B.cells
  have lx := h.lt
  have lg := h.M.lt.1
  go_enter Tryz.func177, Tryz.ntmps177
  go_wp2
  have hS0 : ∃ a', MX B w0 g gl cap gx c a' L s w.drew := ⟨a, h.keep (Below.drew (Below.refl _ _))⟩
  refine wp_region_held_drew (S := fun w' => ∃ a', MX B w0 g gl cap gx c a' L s w') (by kernel_rfl) hS0 (fun hHeld => ?_)
  clear h hS0 x0 m0 lx lg
  generalize w.drew = vv at *
  refine wpAnyH_take (i := 0) (oi := _) (v := .pointer (some ⟨g, 0, none⟩)) rfl (by kernel_rfl) (by kernel_rfl) (by kernel_rfl) (fun _ _ _ h => h) (Or.inl ⟨by rfl, fun w' hSw => by go_simp⟩) hHeld ?_
  try simp only [Act.put, List.getElem_toArray, List.getElem_cons_succ, List.getElem_cons_zero, List.setIfInBounds_toArray, List.set_cons_succ, List.set_cons_zero]
  refine wpAnyH_take (i := 1) (oi := _) (v := .pointer (some ⟨g, 0, none⟩)) rfl (by kernel_rfl) (by kernel_rfl) (by kernel_rfl) (fun _ _ _ h => h) (Or.inl ⟨by rfl, fun w' hSw => by go_simp⟩) hHeld ?_
  try simp only [Act.put, List.getElem_toArray, List.getElem_cons_succ, List.getElem_cons_zero, List.setIfInBounds_toArray, List.set_cons_succ, List.set_cons_zero]
  refine wpAnyH_take (i := 2) (oi := _) (v := .pointer (some ⟨g, 0, none⟩)) rfl (by kernel_rfl) (by kernel_rfl) (by kernel_rfl) (fun _ _ _ h => h) (Or.inl ⟨by rfl, fun w' hSw => by go_simp⟩) hHeld ?_
  try simp only [Act.put, List.getElem_toArray, List.getElem_cons_succ, List.getElem_cons_zero, List.setIfInBounds_toArray, List.set_cons_succ, List.set_cons_zero]
  refine wpAnyH_take (i := 3) (oi := _) (v := .pointer (some ⟨g, 0, none⟩)) rfl (by kernel_rfl) (by kernel_rfl) (by kernel_rfl) (fun _ _ _ h => h) (Or.inl ⟨by rfl, fun w' hSw => by go_simp⟩) hHeld ?_
  try simp only [Act.put, List.getElem_toArray, List.getElem_cons_succ, List.getElem_cons_zero, List.setIfInBounds_toArray, List.set_cons_succ, List.set_cons_zero]
  refine wpAnyH_take (i := 4) (oi := _) (v := cv c) rfl (by kernel_rfl) (by kernel_rfl) (by kernel_rfl) (fun _ _ _ h => h) (Or.inl ⟨by rfl, fun w' hSw => by obtain ⟨a', HS⟩ := hSw; have xx := HS.M.B.cells; go_simp⟩) hHeld ?_
  try simp only [Act.put, List.getElem_toArray, List.getElem_cons_succ, List.getElem_cons_zero, List.setIfInBounds_toArray, List.set_cons_succ, List.set_cons_zero]
  refine wpAnyH_take (i := 5) (oi := _) (v := .pointer (some ⟨gx, 0, none⟩)) rfl (by kernel_rfl) (by kernel_rfl) (by kernel_rfl) (fun _ _ _ h => h) (Or.inl ⟨by rfl, fun w' hSw => by go_simp⟩) hHeld ?_
  try simp only [Act.put, List.getElem_toArray, List.getElem_cons_succ, List.getElem_cons_zero, List.setIfInBounds_toArray, List.set_cons_succ, List.set_cons_zero]
  refine wpAnyH_take (i := 6) (oi := _) (v := .pointer (some ⟨gx, 0, none⟩)) rfl (by kernel_rfl) (by kernel_rfl) (by kernel_rfl) (fun _ _ _ h => h) (Or.inl ⟨by rfl, fun w' hSw => by go_simp⟩) hHeld ?_
  try simp only [Act.put, List.getElem_toArray, List.getElem_cons_succ, List.getElem_cons_zero, List.setIfInBounds_toArray, List.set_cons_succ, List.set_cons_zero]
  refine wpAnyH_take (i := 7) (oi := _) (v := .pointer (some ⟨gx, 28, none⟩)) rfl (by kernel_rfl) (by kernel_rfl) (by kernel_rfl) (fun _ _ _ h => h) (Or.inl ⟨by rfl, fun w' hSw => by go_simp⟩) hHeld ?_
  try simp only [Act.put, List.getElem_toArray, List.getElem_cons_succ, List.getElem_cons_zero, List.setIfInBounds_toArray, List.set_cons_succ, List.set_cons_zero]
  refine wpAnyH_take (i := 8) (oi := _) (v := .int .i64 s.p.j) rfl (by kernel_rfl) (by kernel_rfl) (by kernel_rfl) (fun _ _ _ h => h) (Or.inl ⟨by rfl, fun w' hSw => by obtain ⟨a', HS⟩ := hSw; have xx := HS.X.cells; go_simp⟩) hHeld ?_
  try simp only [Act.put, List.getElem_toArray, List.getElem_cons_succ, List.getElem_cons_zero, List.setIfInBounds_toArray, List.set_cons_succ, List.set_cons_zero]
  refine wpAnyH_ready (rs := [9]) (by kernel_rfl) (by simp) ?_
  refine AllReadyH.cons (o := _) rfl (fun K hK => ?_) AllReadyH.nil
  go_simp
  refine (HAN.out _).mono ?_
  rintro en w1 ⟨rfl, hb1⟩
  obtain ⟨a1, H1⟩ := hHeld
  refine hK.out _ _ ⟨a1, H1.keep hb1⟩ (fun hHeld => ?_)
  clear hK K H1 hb1
  try simp only [Act.put, List.getElem_toArray, List.getElem_cons_succ, List.getElem_cons_zero, List.setIfInBounds_toArray, List.set_cons_succ, List.set_cons_zero]
  refine wpAnyH_ready (rs := [10]) (by kernel_rfl) (by simp) ?_
  refine AllReadyH.cons (o := _) rfl (fun K hK => ?_) AllReadyH.nil
  go_simp
  obtain ⟨a1, H1⟩ := hHeld
  refine (load_any H1.M hm _).mono ?_
  rintro en w2 ⟨rfl, M2, T2⟩
  have H2 := H1.mem M2 T2
  refine hK.out _ _ ⟨_, H2⟩ (fun hHeld => ?_)
  clear hK K H1 M2 T2
  obtain ⟨v0, hv0⟩ : ∃ v, v = ldV L (aAnn c s.p.j) := ⟨_, rfl⟩
  simp only [← hv0]
  rw [← hv0] at hv HO
  have HV := Lib.hid hv0
  clear hv0
  try simp only [Act.put, List.getElem_toArray, List.getElem_cons_succ, List.getElem_cons_zero, List.setIfInBounds_toArray, List.set_cons_succ, List.set_cons_zero]
  refine wpAnyH_ready (rs := [11]) (by kernel_rfl) (by simp) ?_
  refine AllReadyH.cons (o := _) rfl (fun K hK => ?_) AllReadyH.nil
  go_simp
  refine (Pk.unannounce v0 hv.1 hv.2 _).mono ?_
  rintro en w3 ⟨rfl, rfl⟩
  refine hK.out _ _ hHeld (fun hHeld => ?_)
  clear hK K
  try simp only [Act.put, List.getElem_toArray, List.getElem_cons_succ, List.getElem_cons_zero, List.setIfInBounds_toArray, List.set_cons_succ, List.set_cons_zero]
  refine wpAnyH_take (i := 12) (oi := _) (v := .tuple #[.int .u64 (v0 / 2), .bool (v0 % 2 == 1)]) rfl (by kernel_rfl) (by kernel_rfl) (by kernel_rfl) (fun _ _ _ h => h) (Or.inl ⟨by rfl, fun w' hSw => by go_simp⟩) hHeld ?_
  try simp only [Act.put, List.getElem_toArray, List.getElem_cons_succ, List.getElem_cons_zero, List.setIfInBounds_toArray, List.set_cons_succ, List.set_cons_zero]
  refine wpAnyH_take (i := 13) (oi := _) (v := .int .u64 (v0 / 2)) rfl (by kernel_rfl) (by kernel_rfl) (by kernel_rfl) (fun _ _ _ h => h) (Or.inl ⟨by rfl, fun w' hSw => by go_simp⟩) hHeld ?_
  try simp only [Act.put, List.getElem_toArray, List.getElem_cons_succ, List.getElem_cons_zero, List.setIfInBounds_toArray, List.set_cons_succ, List.set_cons_zero]
  refine wpAnyH_take (i := 14) (oi := _) (v := .bool (v0 % 2 == 1)) rfl (by kernel_rfl) (by kernel_rfl) (by kernel_rfl) (fun _ _ _ h => h) (Or.inl ⟨by rfl, fun w' hSw => by go_simp⟩) hHeld ?_
  try simp only [Act.put, List.getElem_toArray, List.getElem_cons_succ, List.getElem_cons_zero, List.setIfInBounds_toArray, List.set_cons_succ, List.set_cons_zero]
  refine wpAnyH_take (i := 15) (oi := _) (v := .int .u64 (v0 / 2)) rfl (by kernel_rfl) (by kernel_rfl) (by kernel_rfl) (fun _ _ _ h => h) (Or.inl ⟨by rfl, fun w' hSw => by go_simp⟩) hHeld ?_
  try simp only [Act.put, List.getElem_toArray, List.getElem_cons_succ, List.getElem_cons_zero, List.setIfInBounds_toArray, List.set_cons_succ, List.set_cons_zero]
  refine wpAnyH_take (i := 16) (oi := _) (v := .bool (v0 % 2 == 1)) rfl (by kernel_rfl) (by kernel_rfl) (by kernel_rfl) (fun _ _ _ h => h) (Or.inl ⟨by rfl, fun w' hSw => by go_simp⟩) hHeld ?_
  try simp only [Act.put, List.getElem_toArray, List.getElem_cons_succ, List.getElem_cons_zero, List.setIfInBounds_toArray, List.set_cons_succ, List.set_cons_zero]
  refine wpAnyH_done (by kernel_rfl) ?_ _
  clear hHeld
  have ho := HO.out
  unfold epOther at ho
  simp only [Bool.and_eq_true, decide_eq_true_eq] at ho
  have b1 : (v0 % 2 == 1) = true := by simp [ho.1]
  have b2 : (v0 / 2 != s.p.v) = true := by simp [ho.2]
  have x2 := H2.X.cells
  clear ho
  go_wp2
  go_ret
  have e1 := HV.out
  subst e1
  exact ⟨rfl, H2⟩
set_option maxRecDepth 10000 in
set_option maxHeartbeats 4000000 in
theorem epl71a {B : Nat} {w0 w : World} {g gl cap gx : Nat} {c : Cfg} {a : Acc} {L : List Int} {s : Wk} (h : MX B w0 g gl cap gx c a L s w) (hm : L.length ≤ 1000) (hL : WR L) (hf : c.Wf) (wk : Int) (hl : s.p.ln = 71) (ho : epOther (ldV L (aAnn c s.p.j)) s.p.v = true) : Calls Tryz.prog 152 #[.pointer (some ⟨g, 0, none⟩), .int .i64 wk, .pointer (some ⟨gx, 0, none⟩)] w (LP B w0 g gl cap gx c ⟨acc L 1 (aAnn c s.p.j) 0 0, L, s.p, 2, true⟩ s) := by
  have HC := Lib.hid (epAska h hm hL hf ho)
  clear ho
  have f0 : ∀ s : Wk, (wc s)[0]? = some (.int .i64 s.p.ln) := fun _ => rfl
  have t1 : (s.p.ln == 1) = false := by simp [hl]
  have t2 : (s.p.ln == 2) = false := by simp [hl]
  have t3 : (s.p.ln == 3) = false := by simp [hl]
  have t90 : (s.p.ln == 90) = false := by simp [hl]
  have t70 : (s.p.ln == 70) = false := by simp [hl]
  have t71 : (s.p.ln == 71) = true := by simp [hl]
  have x0 := h.X.cells
  clear hl
  go_enter Tryz.func152, Tryz.ntmps152
  go_wp2_with fail
  refine HC.out.mono ?_
  rintro en w1 ⟨rfl, H1⟩
  go_wp2
  go_ret2
  exact ⟨rfl, H1⟩
set_option maxRecDepth 10000 in
set_option maxHeartbeats 4000000 in
theorem epAskb {B : Nat} {w0 w : World} {g gl cap gx : Nat} {c : Cfg} {a : Acc} {L : List Int} {s : Wk} (h : MX B w0 g gl cap gx c a L s w) (hm : L.length ≤ 1000) (hL : WR L) (hf : c.Wf) (ho : epOther (ldV L (aAnn c s.p.j)) s.p.v = false) (hj : wrap64 (c.ww - 1) ≤ s.p.j) : Calls Tryz.prog 177 #[.pointer (some ⟨g, 0, none⟩), .pointer (some ⟨gx, 0, none⟩)] w fun e w' => e = .returned (.int .i64 0) ∧ MX B w0 g gl cap gx c (acc L 1 (aAnn c s.p.j) 0 0) L { s with p := { s.p with j := wrap64 (s.p.j + 1), ln := 72 } } w' := by
  have f0 : ∀ s : Wk, (wc s)[0]? = some (.int .i64 s.p.ln) := fun _ => rfl
  have f25 : ∀ s : Wk, (wc s)[25]? = some (.int .u64 s.p.v) := fun _ => rfl
  have f28 : ∀ s : Wk, (wc s)[28]? = some (.int .i64 s.p.j) := fun _ => rfl
  have HO := Lib.hid ho
  have hv := ldV_wr hL (aAnn c s.p.j)
  have HAN := Lib.hid (fun w => Pl.announce c hf s.p.j w)
  clear ho
  have hd : decide (wrap64 (c.ww - 1) ≤ s.p.j) = true := by simp [hj]
  clear hj
  have x0 := h.X.cells
  have m0 := h.M.B.cells
  have lx := h.lt
  have lg := h.M.lt.1
  go_enter Tryz.func177, Tryz.ntmps177
  go_wp2
  have hS0 : ∃ a', MX B w0 g gl cap gx c a' L s w.drew := ⟨a, h.keep (Below.drew (Below.refl _ _))⟩
  refine wp_region_held_drew (S := fun w' => ∃ a', MX B w0 g gl cap gx c a' L s w') (by kernel_rfl) hS0 (fun hHeld => ?_)
  clear h hS0 x0 m0 lx lg
  generalize w.drew = vv at *
  refine wpAnyH_take (i := 0) (oi := _) (v := .pointer (some ⟨g, 0, none⟩)) rfl (by kernel_rfl) (by kernel_rfl) (by kernel_rfl) (fun _ _ _ h => h) (Or.inl ⟨by rfl, fun w' hSw => by go_simp⟩) hHeld ?_
  try simp only [Act.put, List.getElem_toArray, List.getElem_cons_succ, List.getElem_cons_zero, List.setIfInBounds_toArray, List.set_cons_succ, List.set_cons_zero]
  refine wpAnyH_take (i := 1) (oi := _) (v := .pointer (some ⟨g, 0, none⟩)) rfl (by kernel_rfl) (by kernel_rfl) (by kernel_rfl) (fun _ _ _ h => h) (Or.inl ⟨by rfl, fun w' hSw => by go_simp⟩) hHeld ?_
  try simp only [Act.put, List.getElem_toArray, List.getElem_cons_succ, List.getElem_cons_zero, List.setIfInBounds_toArray, List.set_cons_succ, List.set_cons_zero]
  refine wpAnyH_take (i := 2) (oi := _) (v := .pointer (some ⟨g, 0, none⟩)) rfl (by kernel_rfl) (by kernel_rfl) (by kernel_rfl) (fun _ _ _ h => h) (Or.inl ⟨by rfl, fun w' hSw => by go_simp⟩) hHeld ?_
  try simp only [Act.put, List.getElem_toArray, List.getElem_cons_succ, List.getElem_cons_zero, List.setIfInBounds_toArray, List.set_cons_succ, List.set_cons_zero]
  refine wpAnyH_take (i := 3) (oi := _) (v := .pointer (some ⟨g, 0, none⟩)) rfl (by kernel_rfl) (by kernel_rfl) (by kernel_rfl) (fun _ _ _ h => h) (Or.inl ⟨by rfl, fun w' hSw => by go_simp⟩) hHeld ?_
  try simp only [Act.put, List.getElem_toArray, List.getElem_cons_succ, List.getElem_cons_zero, List.setIfInBounds_toArray, List.set_cons_succ, List.set_cons_zero]
  refine wpAnyH_take (i := 4) (oi := _) (v := cv c) rfl (by kernel_rfl) (by kernel_rfl) (by kernel_rfl) (fun _ _ _ h => h) (Or.inl ⟨by rfl, fun w' hSw => by obtain ⟨a', HS⟩ := hSw; have xx := HS.M.B.cells; go_simp⟩) hHeld ?_
  try simp only [Act.put, List.getElem_toArray, List.getElem_cons_succ, List.getElem_cons_zero, List.setIfInBounds_toArray, List.set_cons_succ, List.set_cons_zero]
  refine wpAnyH_take (i := 5) (oi := _) (v := .pointer (some ⟨gx, 0, none⟩)) rfl (by kernel_rfl) (by kernel_rfl) (by kernel_rfl) (fun _ _ _ h => h) (Or.inl ⟨by rfl, fun w' hSw => by go_simp⟩) hHeld ?_
  try simp only [Act.put, List.getElem_toArray, List.getElem_cons_succ, List.getElem_cons_zero, List.setIfInBounds_toArray, List.set_cons_succ, List.set_cons_zero]
  refine wpAnyH_take (i := 6) (oi := _) (v := .pointer (some ⟨gx, 0, none⟩)) rfl (by kernel_rfl) (by kernel_rfl) (by kernel_rfl) (fun _ _ _ h => h) (Or.inl ⟨by rfl, fun w' hSw => by go_simp⟩) hHeld ?_
  try simp only [Act.put, List.getElem_toArray, List.getElem_cons_succ, List.getElem_cons_zero, List.setIfInBounds_toArray, List.set_cons_succ, List.set_cons_zero]
  refine wpAnyH_take (i := 7) (oi := _) (v := .pointer (some ⟨gx, 28, none⟩)) rfl (by kernel_rfl) (by kernel_rfl) (by kernel_rfl) (fun _ _ _ h => h) (Or.inl ⟨by rfl, fun w' hSw => by go_simp⟩) hHeld ?_
  try simp only [Act.put, List.getElem_toArray, List.getElem_cons_succ, List.getElem_cons_zero, List.setIfInBounds_toArray, List.set_cons_succ, List.set_cons_zero]
  refine wpAnyH_take (i := 8) (oi := _) (v := .int .i64 s.p.j) rfl (by kernel_rfl) (by kernel_rfl) (by kernel_rfl) (fun _ _ _ h => h) (Or.inl ⟨by rfl, fun w' hSw => by obtain ⟨a', HS⟩ := hSw; have xx := HS.X.cells; go_simp⟩) hHeld ?_
  try simp only [Act.put, List.getElem_toArray, List.getElem_cons_succ, List.getElem_cons_zero, List.setIfInBounds_toArray, List.set_cons_succ, List.set_cons_zero]
  refine wpAnyH_ready (rs := [9]) (by kernel_rfl) (by simp) ?_
  refine AllReadyH.cons (o := _) rfl (fun K hK => ?_) AllReadyH.nil
  go_simp
  refine (HAN.out _).mono ?_
  rintro en w1 ⟨rfl, hb1⟩
  obtain ⟨a1, H1⟩ := hHeld
  refine hK.out _ _ ⟨a1, H1.keep hb1⟩ (fun hHeld => ?_)
  clear hK K H1 hb1
  try simp only [Act.put, List.getElem_toArray, List.getElem_cons_succ, List.getElem_cons_zero, List.setIfInBounds_toArray, List.set_cons_succ, List.set_cons_zero]
  refine wpAnyH_ready (rs := [10]) (by kernel_rfl) (by simp) ?_
  refine AllReadyH.cons (o := _) rfl (fun K hK => ?_) AllReadyH.nil
  go_simp
  obtain ⟨a1, H1⟩ := hHeld
  refine (load_any H1.M hm _).mono ?_
  rintro en w2 ⟨rfl, M2, T2⟩
  have H2 := H1.mem M2 T2
  refine hK.out _ _ ⟨_, H2⟩ (fun hHeld => ?_)
  clear hK K H1 M2 T2
  obtain ⟨v0, hv0⟩ : ∃ v, v = ldV L (aAnn c s.p.j) := ⟨_, rfl⟩
  simp only [← hv0]
  rw [← hv0] at hv HO
  have HV := Lib.hid hv0
  clear hv0
  try simp only [Act.put, List.getElem_toArray, List.getElem_cons_succ, List.getElem_cons_zero, List.setIfInBounds_toArray, List.set_cons_succ, List.set_cons_zero]
  refine wpAnyH_ready (rs := [11]) (by kernel_rfl) (by simp) ?_
  refine AllReadyH.cons (o := _) rfl (fun K hK => ?_) AllReadyH.nil
  go_simp
  refine (Pk.unannounce v0 hv.1 hv.2 _).mono ?_
  rintro en w3 ⟨rfl, rfl⟩
  refine hK.out _ _ hHeld (fun hHeld => ?_)
  clear hK K
  try simp only [Act.put, List.getElem_toArray, List.getElem_cons_succ, List.getElem_cons_zero, List.setIfInBounds_toArray, List.set_cons_succ, List.set_cons_zero]
  refine wpAnyH_take (i := 12) (oi := _) (v := .tuple #[.int .u64 (v0 / 2), .bool (v0 % 2 == 1)]) rfl (by kernel_rfl) (by kernel_rfl) (by kernel_rfl) (fun _ _ _ h => h) (Or.inl ⟨by rfl, fun w' hSw => by go_simp⟩) hHeld ?_
  try simp only [Act.put, List.getElem_toArray, List.getElem_cons_succ, List.getElem_cons_zero, List.setIfInBounds_toArray, List.set_cons_succ, List.set_cons_zero]
  refine wpAnyH_take (i := 13) (oi := _) (v := .int .u64 (v0 / 2)) rfl (by kernel_rfl) (by kernel_rfl) (by kernel_rfl) (fun _ _ _ h => h) (Or.inl ⟨by rfl, fun w' hSw => by go_simp⟩) hHeld ?_
  try simp only [Act.put, List.getElem_toArray, List.getElem_cons_succ, List.getElem_cons_zero, List.setIfInBounds_toArray, List.set_cons_succ, List.set_cons_zero]
  refine wpAnyH_take (i := 14) (oi := _) (v := .bool (v0 % 2 == 1)) rfl (by kernel_rfl) (by kernel_rfl) (by kernel_rfl) (fun _ _ _ h => h) (Or.inl ⟨by rfl, fun w' hSw => by go_simp⟩) hHeld ?_
  try simp only [Act.put, List.getElem_toArray, List.getElem_cons_succ, List.getElem_cons_zero, List.setIfInBounds_toArray, List.set_cons_succ, List.set_cons_zero]
  refine wpAnyH_take (i := 15) (oi := _) (v := .int .u64 (v0 / 2)) rfl (by kernel_rfl) (by kernel_rfl) (by kernel_rfl) (fun _ _ _ h => h) (Or.inl ⟨by rfl, fun w' hSw => by go_simp⟩) hHeld ?_
  try simp only [Act.put, List.getElem_toArray, List.getElem_cons_succ, List.getElem_cons_zero, List.setIfInBounds_toArray, List.set_cons_succ, List.set_cons_zero]
  refine wpAnyH_take (i := 16) (oi := _) (v := .bool (v0 % 2 == 1)) rfl (by kernel_rfl) (by kernel_rfl) (by kernel_rfl) (fun _ _ _ h => h) (Or.inl ⟨by rfl, fun w' hSw => by go_simp⟩) hHeld ?_
  try simp only [Act.put, List.getElem_toArray, List.getElem_cons_succ, List.getElem_cons_zero, List.setIfInBounds_toArray, List.set_cons_succ, List.set_cons_zero]
  refine wpAnyH_done (by kernel_rfl) ?_ _
  clear hHeld
  by_cases hb : v0 % 2 = 1
  · have b1 : (v0 % 2 == 1) = true := by simp [hb]
    have b2 : (v0 / 2 != s.p.v) = false := by
      have ho := HO.out
      unfold epOther at ho
      rw [decide_eq_true hb, Bool.true_and] at ho
      simpa using ho
    clear hb
    have H3 := H2.set (s' := { s with p := { s.p with ln := 71 } }) 0 (.int .i64 71) rfl
    have xw2 := H2.X.cells
    have zw2 := H2.X.frozen
    have ew2_0 : (w2.cell? ⟨gx, 0, none⟩).isSome = true := by rw [xw2, f0]; rfl
    go_wp2
    generalize w2.setCell ⟨gx, 0, none⟩ (.int .i64 71) = w4 at *
    clear xw2 zw2 ew2_0 H2
    have x4 := H3.X.cells
    have m4 := H3.M.B.cells
    have lx4 := H3.lt
    have lg4 := H3.M.lt.1
    refine wp_region_grown (by kernel_rfl) (by kernel_rfl) ?_
    have hg := @gcell
    repeat (go_big_quiet_step (fail))
    refine wpQuiet_nil ?_
    rintro w5 ⟨⟨_, hb5⟩, rfl⟩
    clear hg
    have H5 := H3.keep hb5
    clear x4 m4 lx4 lg4 H3 hb5
    have H6 := H5.set (s' := { s with p := { s.p with ln := 72 } }) 0 (.int .i64 72) rfl
    have xw5 := H5.X.cells
    have zw5 := H5.X.frozen
    have ew5_0 : (w5.cell? ⟨gx, 0, none⟩).isSome = true := by rw [xw5, f0]; rfl
    have H7 := H6.set (s' := { s with p := { s.p with j := wrap64 (s.p.j + 1), ln := 72 } }) 28 (.int .i64 (wrap64 (s.p.j + 1))) rfl
    have y7 : ((w5.setCell ⟨gx, 0, none⟩ (.int .i64 72)).cell? ⟨gx, 28, none⟩).isSome = true := by rw [H6.X.cells, f28]; rfl
    go_wp2
    go_ret
    have e1 := HV.out
    subst e1
    exact ⟨rfl, H7⟩
  · have b1 : (v0 % 2 == 1) = false := by simp [hb]
    clear hb
    have H3 := H2.set (s' := { s with p := { s.p with ln := 71 } }) 0 (.int .i64 71) rfl
    have xw2 := H2.X.cells
    have zw2 := H2.X.frozen
    have ew2_0 : (w2.cell? ⟨gx, 0, none⟩).isSome = true := by rw [xw2, f0]; rfl
    go_wp2
    generalize w2.setCell ⟨gx, 0, none⟩ (.int .i64 71) = w4 at *
    clear xw2 zw2 ew2_0 H2
    have x4 := H3.X.cells
    have m4 := H3.M.B.cells
    have lx4 := H3.lt
    have lg4 := H3.M.lt.1
    refine wp_region_grown (by kernel_rfl) (by kernel_rfl) ?_
    have hg := @gcell
    repeat (go_big_quiet_step (fail))
    refine wpQuiet_nil ?_
    rintro w5 ⟨⟨_, hb5⟩, rfl⟩
    clear hg
    have H5 := H3.keep hb5
    clear x4 m4 lx4 lg4 H3 hb5
    have H6 := H5.set (s' := { s with p := { s.p with ln := 72 } }) 0 (.int .i64 72) rfl
    have xw5 := H5.X.cells
    have zw5 := H5.X.frozen
    have ew5_0 : (w5.cell? ⟨gx, 0, none⟩).isSome = true := by rw [xw5, f0]; rfl
    have H7 := H6.set (s' := { s with p := { s.p with j := wrap64 (s.p.j + 1), ln := 72 } }) 28 (.int .i64 (wrap64 (s.p.j + 1))) rfl
    have y7 : ((w5.setCell ⟨gx, 0, none⟩ (.int .i64 72)).cell? ⟨gx, 28, none⟩).isSome = true := by rw [H6.X.cells, f28]; rfl
    go_wp2
    go_ret
    have e1 := HV.out
    subst e1
    exact ⟨rfl, H7⟩
set_option maxRecDepth 10000 in
set_option maxHeartbeats 4000000 in
theorem epl71b {B : Nat} {w0 w : World} {g gl cap gx : Nat} {c : Cfg} {a : Acc} {L : List Int} {s : Wk} (h : MX B w0 g gl cap gx c a L s w) (hm : L.length ≤ 1000) (hL : WR L) (hf : c.Wf) (wk : Int) (hl : s.p.ln = 71) (ho : epOther (ldV L (aAnn c s.p.j)) s.p.v = false) (hj : wrap64 (c.ww - 1) ≤ s.p.j) : Calls Tryz.prog 152 #[.pointer (some ⟨g, 0, none⟩), .int .i64 wk, .pointer (some ⟨gx, 0, none⟩)] w (LP B w0 g gl cap gx c ⟨acc L 1 (aAnn c s.p.j) 0 0, L, { s.p with j := wrap64 (s.p.j + 1), ln := 72 }, 0, true⟩ s) := by
  have HC := Lib.hid (epAskb h hm hL hf ho hj)
  clear ho hj
  have f0 : ∀ s : Wk, (wc s)[0]? = some (.int .i64 s.p.ln) := fun _ => rfl
  have t1 : (s.p.ln == 1) = false := by simp [hl]
  have t2 : (s.p.ln == 2) = false := by simp [hl]
  have t3 : (s.p.ln == 3) = false := by simp [hl]
  have t90 : (s.p.ln == 90) = false := by simp [hl]
  have t70 : (s.p.ln == 70) = false := by simp [hl]
  have t71 : (s.p.ln == 71) = true := by simp [hl]
  have x0 := h.X.cells
  clear hl
  go_enter Tryz.func152, Tryz.ntmps152
  go_wp2_with fail
  refine HC.out.mono ?_
  rintro en w1 ⟨rfl, H1⟩
  go_wp2
  go_ret2
  exact ⟨rfl, H1⟩
set_option maxRecDepth 10000 in
set_option maxHeartbeats 4000000 in
theorem epAskc {B : Nat} {w0 w : World} {g gl cap gx : Nat} {c : Cfg} {a : Acc} {L : List Int} {s : Wk} (h : MX B w0 g gl cap gx c a L s w) (hm : L.length ≤ 1000) (hL : WR L) (hf : c.Wf) (ho : epOther (ldV L (aAnn c s.p.j)) s.p.v = false) (hj : ¬ wrap64 (c.ww - 1) ≤ s.p.j) : Calls Tryz.prog 177 #[.pointer (some ⟨g, 0, none⟩), .pointer (some ⟨gx, 0, none⟩)] w fun e w' => e = .returned (.int .i64 0) ∧ MX B w0 g gl cap gx c (acc L 1 (aAnn c s.p.j) 0 0) L { s with p := { s.p with j := wrap64 (s.p.j + 1), ln := 71 } } w' := by
  have f0 : ∀ s : Wk, (wc s)[0]? = some (.int .i64 s.p.ln) := fun _ => rfl
  have f25 : ∀ s : Wk, (wc s)[25]? = some (.int .u64 s.p.v) := fun _ => rfl
  have f28 : ∀ s : Wk, (wc s)[28]? = some (.int .i64 s.p.j) := fun _ => rfl
  have HO := Lib.hid ho
  have hv := ldV_wr hL (aAnn c s.p.j)
  have HAN := Lib.hid (fun w => Pl.announce c hf s.p.j w)
  clear ho
  have hd : decide (wrap64 (c.ww - 1) ≤ s.p.j) = false := by simp; omega
  clear hj
  have x0 := h.X.cells
  have m0 := h.M.B.cells
  have lx := h.lt
  have lg := h.M.lt.1
  go_enter Tryz.func177, Tryz.ntmps177
  go_wp2
  have hS0 : ∃ a', MX B w0 g gl cap gx c a' L s w.drew := ⟨a, h.keep (Below.drew (Below.refl _ _))⟩
  refine wp_region_held_drew (S := fun w' => ∃ a', MX B w0 g gl cap gx c a' L s w') (by kernel_rfl) hS0 (fun hHeld => ?_)
  clear h hS0 x0 m0 lx lg
  generalize w.drew = vv at *
  refine wpAnyH_take (i := 0) (oi := _) (v := .pointer (some ⟨g, 0, none⟩)) rfl (by kernel_rfl) (by kernel_rfl) (by kernel_rfl) (fun _ _ _ h => h) (Or.inl ⟨by rfl, fun w' hSw => by go_simp⟩) hHeld ?_
  try simp only [Act.put, List.getElem_toArray, List.getElem_cons_succ, List.getElem_cons_zero, List.setIfInBounds_toArray, List.set_cons_succ, List.set_cons_zero]
  refine wpAnyH_take (i := 1) (oi := _) (v := .pointer (some ⟨g, 0, none⟩)) rfl (by kernel_rfl) (by kernel_rfl) (by kernel_rfl) (fun _ _ _ h => h) (Or.inl ⟨by rfl, fun w' hSw => by go_simp⟩) hHeld ?_
  try simp only [Act.put, List.getElem_toArray, List.getElem_cons_succ, List.getElem_cons_zero, List.setIfInBounds_toArray, List.set_cons_succ, List.set_cons_zero]
  refine wpAnyH_take (i := 2) (oi := _) (v := .pointer (some ⟨g, 0, none⟩)) rfl (by kernel_rfl) (by kernel_rfl) (by kernel_rfl) (fun _ _ _ h => h) (Or.inl ⟨by rfl, fun w' hSw => by go_simp⟩) hHeld ?_
  try simp only [Act.put, List.getElem_toArray, List.getElem_cons_succ, List.getElem_cons_zero, List.setIfInBounds_toArray, List.set_cons_succ, List.set_cons_zero]
  refine wpAnyH_take (i := 3) (oi := _) (v := .pointer (some ⟨g, 0, none⟩)) rfl (by kernel_rfl) (by kernel_rfl) (by kernel_rfl) (fun _ _ _ h => h) (Or.inl ⟨by rfl, fun w' hSw => by go_simp⟩) hHeld ?_
  try simp only [Act.put, List.getElem_toArray, List.getElem_cons_succ, List.getElem_cons_zero, List.setIfInBounds_toArray, List.set_cons_succ, List.set_cons_zero]
  refine wpAnyH_take (i := 4) (oi := _) (v := cv c) rfl (by kernel_rfl) (by kernel_rfl) (by kernel_rfl) (fun _ _ _ h => h) (Or.inl ⟨by rfl, fun w' hSw => by obtain ⟨a', HS⟩ := hSw; have xx := HS.M.B.cells; go_simp⟩) hHeld ?_
  try simp only [Act.put, List.getElem_toArray, List.getElem_cons_succ, List.getElem_cons_zero, List.setIfInBounds_toArray, List.set_cons_succ, List.set_cons_zero]
  refine wpAnyH_take (i := 5) (oi := _) (v := .pointer (some ⟨gx, 0, none⟩)) rfl (by kernel_rfl) (by kernel_rfl) (by kernel_rfl) (fun _ _ _ h => h) (Or.inl ⟨by rfl, fun w' hSw => by go_simp⟩) hHeld ?_
  try simp only [Act.put, List.getElem_toArray, List.getElem_cons_succ, List.getElem_cons_zero, List.setIfInBounds_toArray, List.set_cons_succ, List.set_cons_zero]
  refine wpAnyH_take (i := 6) (oi := _) (v := .pointer (some ⟨gx, 0, none⟩)) rfl (by kernel_rfl) (by kernel_rfl) (by kernel_rfl) (fun _ _ _ h => h) (Or.inl ⟨by rfl, fun w' hSw => by go_simp⟩) hHeld ?_
  try simp only [Act.put, List.getElem_toArray, List.getElem_cons_succ, List.getElem_cons_zero, List.setIfInBounds_toArray, List.set_cons_succ, List.set_cons_zero]
  refine wpAnyH_take (i := 7) (oi := _) (v := .pointer (some ⟨gx, 28, none⟩)) rfl (by kernel_rfl) (by kernel_rfl) (by kernel_rfl) (fun _ _ _ h => h) (Or.inl ⟨by rfl, fun w' hSw => by go_simp⟩) hHeld ?_
  try simp only [Act.put, List.getElem_toArray, List.getElem_cons_succ, List.getElem_cons_zero, List.setIfInBounds_toArray, List.set_cons_succ, List.set_cons_zero]
  refine wpAnyH_take (i := 8) (oi := _) (v := .int .i64 s.p.j) rfl (by kernel_rfl) (by kernel_rfl) (by kernel_rfl) (fun _ _ _ h => h) (Or.inl ⟨by rfl, fun w' hSw => by obtain ⟨a', HS⟩ := hSw; have xx := HS.X.cells; go_simp⟩) hHeld ?_
  try simp only [Act.put, List.getElem_toArray, List.getElem_cons_succ, List.getElem_cons_zero, List.setIfInBounds_toArray, List.set_cons_succ, List.set_cons_zero]
  refine wpAnyH_ready (rs := [9]) (by kernel_rfl) (by simp) ?_
  refine AllReadyH.cons (o := _) rfl (fun K hK => ?_) AllReadyH.nil
  go_simp
  refine (HAN.out _).mono ?_
  rintro en w1 ⟨rfl, hb1⟩
  obtain ⟨a1, H1⟩ := hHeld
  refine hK.out _ _ ⟨a1, H1.keep hb1⟩ (fun hHeld => ?_)
  clear hK K H1 hb1
  try simp only [Act.put, List.getElem_toArray, List.getElem_cons_succ, List.getElem_cons_zero, List.setIfInBounds_toArray, List.set_cons_succ, List.set_cons_zero]
  refine wpAnyH_ready (rs := [10]) (by kernel_rfl) (by simp) ?_
  refine AllReadyH.cons (o := _) rfl (fun K hK => ?_) AllReadyH.nil
  go_simp
  obtain ⟨a1, H1⟩ := hHeld
  refine (load_any H1.M hm _).mono ?_
  rintro en w2 ⟨rfl, M2, T2⟩
  have H2 := H1.mem M2 T2
  refine hK.out _ _ ⟨_, H2⟩ (fun hHeld => ?_)
  clear hK K H1 M2 T2
  obtain ⟨v0, hv0⟩ : ∃ v, v = ldV L (aAnn c s.p.j) := ⟨_, rfl⟩
  simp only [← hv0]
  rw [← hv0] at hv HO
  have HV := Lib.hid hv0
  clear hv0
  try simp only [Act.put, List.getElem_toArray, List.getElem_cons_succ, List.getElem_cons_zero, List.setIfInBounds_toArray, List.set_cons_succ, List.set_cons_zero]
  refine wpAnyH_ready (rs := [11]) (by kernel_rfl) (by simp) ?_
  refine AllReadyH.cons (o := _) rfl (fun K hK => ?_) AllReadyH.nil
  go_simp
  refine (Pk.unannounce v0 hv.1 hv.2 _).mono ?_
  rintro en w3 ⟨rfl, rfl⟩
  refine hK.out _ _ hHeld (fun hHeld => ?_)
  clear hK K
  try simp only [Act.put, List.getElem_toArray, List.getElem_cons_succ, List.getElem_cons_zero, List.setIfInBounds_toArray, List.set_cons_succ, List.set_cons_zero]
  refine wpAnyH_take (i := 12) (oi := _) (v := .tuple #[.int .u64 (v0 / 2), .bool (v0 % 2 == 1)]) rfl (by kernel_rfl) (by kernel_rfl) (by kernel_rfl) (fun _ _ _ h => h) (Or.inl ⟨by rfl, fun w' hSw => by go_simp⟩) hHeld ?_
  try simp only [Act.put, List.getElem_toArray, List.getElem_cons_succ, List.getElem_cons_zero, List.setIfInBounds_toArray, List.set_cons_succ, List.set_cons_zero]
  refine wpAnyH_take (i := 13) (oi := _) (v := .int .u64 (v0 / 2)) rfl (by kernel_rfl) (by kernel_rfl) (by kernel_rfl) (fun _ _ _ h => h) (Or.inl ⟨by rfl, fun w' hSw => by go_simp⟩) hHeld ?_
  try simp only [Act.put, List.getElem_toArray, List.getElem_cons_succ, List.getElem_cons_zero, List.setIfInBounds_toArray, List.set_cons_succ, List.set_cons_zero]
  refine wpAnyH_take (i := 14) (oi := _) (v := .bool (v0 % 2 == 1)) rfl (by kernel_rfl) (by kernel_rfl) (by kernel_rfl) (fun _ _ _ h => h) (Or.inl ⟨by rfl, fun w' hSw => by go_simp⟩) hHeld ?_
  try simp only [Act.put, List.getElem_toArray, List.getElem_cons_succ, List.getElem_cons_zero, List.setIfInBounds_toArray, List.set_cons_succ, List.set_cons_zero]
  refine wpAnyH_take (i := 15) (oi := _) (v := .int .u64 (v0 / 2)) rfl (by kernel_rfl) (by kernel_rfl) (by kernel_rfl) (fun _ _ _ h => h) (Or.inl ⟨by rfl, fun w' hSw => by go_simp⟩) hHeld ?_
  try simp only [Act.put, List.getElem_toArray, List.getElem_cons_succ, List.getElem_cons_zero, List.setIfInBounds_toArray, List.set_cons_succ, List.set_cons_zero]
  refine wpAnyH_take (i := 16) (oi := _) (v := .bool (v0 % 2 == 1)) rfl (by kernel_rfl) (by kernel_rfl) (by kernel_rfl) (fun _ _ _ h => h) (Or.inl ⟨by rfl, fun w' hSw => by go_simp⟩) hHeld ?_
  try simp only [Act.put, List.getElem_toArray, List.getElem_cons_succ, List.getElem_cons_zero, List.setIfInBounds_toArray, List.set_cons_succ, List.set_cons_zero]
  refine wpAnyH_done (by kernel_rfl) ?_ _
  clear hHeld
  by_cases hb : v0 % 2 = 1
  · have b1 : (v0 % 2 == 1) = true := by simp [hb]
    have b2 : (v0 / 2 != s.p.v) = false := by
      have ho := HO.out
      unfold epOther at ho
      rw [decide_eq_true hb, Bool.true_and] at ho
      simpa using ho
    clear hb
    have H3 := H2.set (s' := { s with p := { s.p with ln := 71 } }) 0 (.int .i64 71) rfl
    have xw2 := H2.X.cells
    have zw2 := H2.X.frozen
    have ew2_0 : (w2.cell? ⟨gx, 0, none⟩).isSome = true := by rw [xw2, f0]; rfl
    go_wp2
    generalize w2.setCell ⟨gx, 0, none⟩ (.int .i64 71) = w4 at *
    clear xw2 zw2 ew2_0 H2
    have x4 := H3.X.cells
    have m4 := H3.M.B.cells
    have lx4 := H3.lt
    have lg4 := H3.M.lt.1
    refine wp_region_grown (by kernel_rfl) (by kernel_rfl) ?_
    have hg := @gcell
    repeat (go_big_quiet_step (fail))
    refine wpQuiet_nil ?_
    rintro w5 ⟨⟨_, hb5⟩, rfl⟩
    clear hg
    have H5 := H3.keep hb5
    clear x4 m4 lx4 lg4 H3 hb5
    have H7 := H5.set (s' := { s with p := { s.p with j := wrap64 (s.p.j + 1), ln := 71 } }) 28 (.int .i64 (wrap64 (s.p.j + 1))) rfl
    have xw5 := H5.X.cells
    have zw5 := H5.X.frozen
    have ew5_28 : (w5.cell? ⟨gx, 28, none⟩).isSome = true := by rw [xw5, f28]; rfl
    go_wp2
    go_ret
    have e1 := HV.out
    subst e1
    exact ⟨rfl, H7⟩
  · have b1 : (v0 % 2 == 1) = false := by simp [hb]
    clear hb
    have H3 := H2.set (s' := { s with p := { s.p with ln := 71 } }) 0 (.int .i64 71) rfl
    have xw2 := H2.X.cells
    have zw2 := H2.X.frozen
    have ew2_0 : (w2.cell? ⟨gx, 0, none⟩).isSome = true := by rw [xw2, f0]; rfl
    go_wp2
    generalize w2.setCell ⟨gx, 0, none⟩ (.int .i64 71) = w4 at *
    clear xw2 zw2 ew2_0 H2
    have x4 := H3.X.cells
    have m4 := H3.M.B.cells
    have lx4 := H3.lt
    have lg4 := H3.M.lt.1
    refine wp_region_grown (by kernel_rfl) (by kernel_rfl) ?_
    have hg := @gcell
    repeat (go_big_quiet_step (fail))
    refine wpQuiet_nil ?_
    rintro w5 ⟨⟨_, hb5⟩, rfl⟩
    clear hg
    have H5 := H3.keep hb5
    clear x4 m4 lx4 lg4 H3 hb5
    have H7 := H5.set (s' := { s with p := { s.p with j := wrap64 (s.p.j + 1), ln := 71 } }) 28 (.int .i64 (wrap64 (s.p.j + 1))) rfl
    have xw5 := H5.X.cells
    have zw5 := H5.X.frozen
    have ew5_28 : (w5.cell? ⟨gx, 28, none⟩).isSome = true := by rw [xw5, f28]; rfl
    go_wp2
    go_ret
    have e1 := HV.out
    subst e1
    exact ⟨rfl, H7⟩
set_option maxRecDepth 10000 in
set_option maxHeartbeats 4000000 in
theorem epl71c {B : Nat} {w0 w : World} {g gl cap gx : Nat} {c : Cfg} {a : Acc} {L : List Int} {s : Wk} (h : MX B w0 g gl cap gx c a L s w) (hm : L.length ≤ 1000) (hL : WR L) (hf : c.Wf) (wk : Int) (hl : s.p.ln = 71) (ho : epOther (ldV L (aAnn c s.p.j)) s.p.v = false) (hj : ¬ wrap64 (c.ww - 1) ≤ s.p.j) : Calls Tryz.prog 152 #[.pointer (some ⟨g, 0, none⟩), .int .i64 wk, .pointer (some ⟨gx, 0, none⟩)] w (LP B w0 g gl cap gx c ⟨acc L 1 (aAnn c s.p.j) 0 0, L, { s.p with j := wrap64 (s.p.j + 1), ln := 71 }, 0, true⟩ s) := by
  have HC := Lib.hid (epAskc h hm hL hf ho hj)
  clear ho hj
  have f0 : ∀ s : Wk, (wc s)[0]? = some (.int .i64 s.p.ln) := fun _ => rfl
  have t1 : (s.p.ln == 1) = false := by simp [hl]
  have t2 : (s.p.ln == 2) = false := by simp [hl]
  have t3 : (s.p.ln == 3) = false := by simp [hl]
  have t90 : (s.p.ln == 90) = false := by simp [hl]
  have t70 : (s.p.ln == 70) = false := by simp [hl]
  have t71 : (s.p.ln == 71) = true := by simp [hl]
  have x0 := h.X.cells
  clear hl
  go_enter Tryz.func152, Tryz.ntmps152
  go_wp2_with fail
  refine HC.out.mono ?_
  rintro en w1 ⟨rfl, H1⟩
  go_wp2
  go_ret2
  exact ⟨rfl, H1⟩
set_option maxRecDepth 10000 in
set_option maxHeartbeats 4000000 in
theorem epl72y {B : Nat} {w0 w : World} {g gl cap gx : Nat} {c : Cfg} {a : Acc} {L : List Int} {s : Wk} (h : MX B w0 g gl cap gx c a L s w) (hm : L.length ≤ 1000) (hL : WR L) (hf : c.Wf) (wk : Int) (hl : s.p.ln = 72) (hb : csB L 0 s.p.v = true) : Calls Tryz.prog 152 #[.pointer (some ⟨g, 0, none⟩), .int .i64 wk, .pointer (some ⟨gx, 0, none⟩)] w (LP B w0 g gl cap gx c ⟨acc L 3 0 s.p.v (IntKind.u64.wrap (s.p.v + 1)), csL L 0 s.p.v (IntKind.u64.wrap (s.p.v + 1)), s.p, 1, true⟩ s) := by
  have HB := Lib.hid hb
  clear hb
  have f0 : ∀ s : Wk, (wc s)[0]? = some (.int .i64 s.p.ln) := fun _ => rfl
  have f25 : ∀ s : Wk, (wc s)[25]? = some (.int .u64 s.p.v) := fun _ => rfl
  have t1 : (s.p.ln == 1) = false := by simp [hl]
  have t2 : (s.p.ln == 2) = false := by simp [hl]
  have t3 : (s.p.ln == 3) = false := by simp [hl]
  have t90 : (s.p.ln == 90) = false := by simp [hl]
  have t70 : (s.p.ln == 70) = false := by simp [hl]
  have t71 : (s.p.ln == 71) = false := by simp [hl]
  have t72 : (s.p.ln == 72) = true := by simp [hl]
  have x0 := h.X.cells
  clear hl
  go_enter Tryz.func152, Tryz.ntmps152
  have lx := h.lt
  go_wp2
  refine wp_region_grown_tail 10 (by kernel_rfl) (by kernel_rfl) ?_
  simp only [List.take_succ_cons, List.take_zero, List.drop_succ_cons, List.drop_zero]
  have hg := @gcell
  repeat (go_big_quiet_step (fail))
  refine wpQuiet_nil ?_
  rintro w1 ⟨⟨_, hb1⟩, rfl⟩
  clear hg
  have H1 := h.keep hb1
  have hcas := cas_any H1.M hm 0 s.p.v (IntKind.u64.wrap (s.p.v + 1))
  rw [HB.out] at hcas
  have HCA := Lib.hid hcas
  clear hcas x0 lx hb1
  go_wp2_with fail
  refine HCA.out.mono ?_
  rintro en w2 ⟨rfl, M2, T2⟩
  have H2 := H1.mem M2 T2
  go_wp2
  go_ret2
  exact ⟨rfl, H2⟩
set_option maxRecDepth 10000 in
set_option maxHeartbeats 4000000 in
theorem epl72n {B : Nat} {w0 w : World} {g gl cap gx : Nat} {c : Cfg} {a : Acc} {L : List Int} {s : Wk} (h : MX B w0 g gl cap gx c a L s w) (hm : L.length ≤ 1000) (hL : WR L) (hf : c.Wf) (wk : Int) (hl : s.p.ln = 72) (hb : csB L 0 s.p.v = false) : Calls Tryz.prog 152 #[.pointer (some ⟨g, 0, none⟩), .int .i64 wk, .pointer (some ⟨gx, 0, none⟩)] w (LP B w0 g gl cap gx c ⟨acc L 3 0 s.p.v (IntKind.u64.wrap (s.p.v + 1)), csL L 0 s.p.v (IntKind.u64.wrap (s.p.v + 1)), s.p, 2, true⟩ s) := by
  have HB := Lib.hid hb
  clear hb
  have f0 : ∀ s : Wk, (wc s)[0]? = some (.int .i64 s.p.ln) := fun _ => rfl
  have f25 : ∀ s : Wk, (wc s)[25]? = some (.int .u64 s.p.v) := fun _ => rfl
  have t1 : (s.p.ln == 1) = false := by simp [hl]
  have t2 : (s.p.ln == 2) = false := by simp [hl]
  have t3 : (s.p.ln == 3) = false := by simp [hl]
  have t90 : (s.p.ln == 90) = false := by simp [hl]
  have t70 : (s.p.ln == 70) = false := by simp [hl]
  have t71 : (s.p.ln == 71) = false := by simp [hl]
  have t72 : (s.p.ln == 72) = true := by simp [hl]
  have x0 := h.X.cells
  clear hl
  go_enter Tryz.func152, Tryz.ntmps152
  have lx := h.lt
  go_wp2
  refine wp_region_grown_tail 10 (by kernel_rfl) (by kernel_rfl) ?_
  simp only [List.take_succ_cons, List.take_zero, List.drop_succ_cons, List.drop_zero]
  have hg := @gcell
  repeat (go_big_quiet_step (fail))
  refine wpQuiet_nil ?_
  rintro w1 ⟨⟨_, hb1⟩, rfl⟩
  clear hg
  have H1 := h.keep hb1
  have hcas := cas_any H1.M hm 0 s.p.v (IntKind.u64.wrap (s.p.v + 1))
  rw [HB.out] at hcas
  have HCA := Lib.hid hcas
  clear hcas x0 lx hb1
  go_wp2_with fail
  refine HCA.out.mono ?_
  rintro en w2 ⟨rfl, M2, T2⟩
  have H2 := H1.mem M2 T2
  go_wp2
  go_ret2
  exact ⟨rfl, H2⟩
set_option maxRecDepth 10000 in
set_option maxHeartbeats 4000000 in
theorem eplNone {B : Nat} {w0 w : World} {g gl cap gx : Nat} {c : Cfg} {a : Acc} {L : List Int} {s : Wk} (h : MX B w0 g gl cap gx c a L s w) (hm : L.length ≤ 1000) (hL : WR L) (hf : c.Wf) (wk : Int) (hl : s.p.ln ≠ 1 ∧ s.p.ln ≠ 2 ∧ s.p.ln ≠ 3 ∧ s.p.ln ≠ 90 ∧ s.p.ln ≠ 70 ∧ s.p.ln ≠ 71 ∧ s.p.ln ≠ 72) : Calls Tryz.prog 152 #[.pointer (some ⟨g, 0, none⟩), .int .i64 wk, .pointer (some ⟨gx, 0, none⟩)] w (LP B w0 g gl cap gx c ⟨a, L, s.p, 0, false⟩ s) := by
  have f0 : ∀ s : Wk, (wc s)[0]? = some (.int .i64 s.p.ln) := fun _ => rfl
  have t1 : (s.p.ln == 1) = false := by simp; omega
  have t2 : (s.p.ln == 2) = false := by simp; omega
  have t3 : (s.p.ln == 3) = false := by simp; omega
  have t90 : (s.p.ln == 90) = false := by simp; omega
  have t70 : (s.p.ln == 70) = false := by simp; omega
  have t71 : (s.p.ln == 71) = false := by simp; omega
  have t72 : (s.p.ln == 72) = false := by simp; omega
  have x0 := h.X.cells
  clear hl
  go_enter Tryz.func152, Tryz.ntmps152
  go_wp2
  go_ret2
  exact ⟨rfl, h⟩
/-- A line, whichever. -/
theorem epochLine {B : Nat} {w0 w : World} {g gl cap gx : Nat} {c : Cfg} {a : Acc} {L : List Int} {s : Wk} (h : MX B w0 g gl cap gx c a L s w) (hm : L.length ≤ 1000) (hL : WR L) (hf : c.Wf) (wk : Int) : Calls Tryz.prog 152 #[.pointer (some ⟨g, 0, none⟩), .int .i64 wk, .pointer (some ⟨gx, 0, none⟩)] w (LP B w0 g gl cap gx c (epochLn c a L s.p wk) s) := by
  unfold epochLn
  by_cases h1 : s.p.ln = 1
  · rw [if_pos h1]; exact epl1 h hm hL hf wk h1
  rw [if_neg h1]
  by_cases h2 : s.p.ln = 2
  · rw [if_pos h2]; exact epl2 h hm hL hf wk h2
  rw [if_neg h2]
  by_cases h3 : s.p.ln = 3
  · rw [if_pos h3]
    unfold ep3
    split
    · rename_i he; exact epl3y h hm hL hf wk h3 he
    · rename_i he; exact epl3n h hm hL hf wk h3 he
  rw [if_neg h3]
  by_cases h90 : s.p.ln = 90
  · rw [if_pos h90]; exact epl90 h hm hL hf wk h90
  rw [if_neg h90]
  by_cases h70 : s.p.ln = 70
  · rw [if_pos h70]; exact epl70 h hm hL hf wk h70
  rw [if_neg h70]
  by_cases h71 : s.p.ln = 71
  · rw [if_pos h71]
    unfold ep71
    cases ho : epOther (ldV L (aAnn c s.p.j)) s.p.v with
    | true => rw [if_pos rfl]; exact epl71a h hm hL hf wk h71 ho
    | false =>
      rw [if_neg (by simp)]
      by_cases hj : wrap64 (c.ww - 1) ≤ s.p.j
      · rw [if_pos hj]; exact epl71b h hm hL hf wk h71 ho hj
      · rw [if_neg hj]; exact epl71c h hm hL hf wk h71 ho hj
  rw [if_neg h71]
  by_cases h72 : s.p.ln = 72
  · rw [if_pos h72]
    unfold ep72
    cases hb : csB L 0 s.p.v with
    | true => rw [if_pos rfl]; exact epl72y h hm hL hf wk h72 hb
    | false => rw [if_neg (by simp)]; exact epl72n h hm hL hf wk h72 hb
  rw [if_neg h72]
  exact eplNone h hm hL hf wk ⟨h1, h2, h3, h90, h70, h71, h72⟩
theorem epochStepAny {B : Nat} {w : World} {g gl cap : Nat} {c : Cfg} {a : Acc} {L : List Int} (M : MemAt B w g c a gl cap L) (hf : c.Wf) (hm : L.length ≤ 1000) (hL : WR L) (s : Wk) (x : St) (hx : Few 1000 x) (h : Lies w s x) (hp : PR x.p) (wk : Int) :
    Calls Tryz.prog 125 #[.pointer (some ⟨g, 0, none⟩), .int .i64 wk, wv s] w (GPost B g gl cap c (epochLn c a L x.p wk).fin x w) :=
  epochStep M s x hx h wk _ fun gx s1 w1 H e => by
    have := epochLine H hm hL hf wk
    rwa [e] at this
end Go.Proofs.YtgpdkagmacpghaaGreat.Me
